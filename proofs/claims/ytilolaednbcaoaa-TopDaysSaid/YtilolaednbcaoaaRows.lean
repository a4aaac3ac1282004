/-
  No cell of these rows narrows 'for every input' (looked for: loops, veiled, ifaces, maps, wideKeys, modest, calm, conditions, laid).
  DERIVED. THE GIVEN ROWS OF THIS SEAT. 6 by the template 'for every input the law returns true; each argument reads behind the call as it read before'; 0 by the template 'total and deterministic' (their statements: YtilolaednbcaoaaTotals.lean).
  GIVEN WITH THE SEED: the statements are not yours to turn. If you find one false, say at which input.
  Laid BY PROGRAM, IN A SANDBOX (cutbox-rows.mjs): the forced cells as the released guide's own fill.sh prints them over the translation dc736af890297571… (all of the seat's roots in one cut). By AI agents, Wed Nov 11 2026. No macro, syntax, notation, axiom, sorry.
-/
import Derived.Test.YtilolaednbcaoaaChecked
import GoSem.Claim
import GoSem.ClaimJoined
import GoSem.ClaimMapViews
import Derived.JoinedTies
import Derived.KernelRfl
namespace Go.Proofs.Ytilolaednbcaoaa
/- THE CELL 'sum', in the pinned program and in every row, IS THE sha256 OF THE DUMP (.gsa) THAT YtilolaednbcaoaaProg.lean LOADS. Nothing in Lean hashes anything: it is a label: what it is worth is what the hold of that sum in a sandbox is worth. -/
noncomputable def Try.pinned : Pinned := { name := "ytilolaednbcaoaa", sum := "dc736af8902975716364f76b81c9c72b2e0050a998a3f8e7f2da8a5cfab1f080", checked := Try.checked }
namespace Rows
def none {H : Type} : Left H := { results := [], args := [] }

/-- 'canteenlaw01.TermCounts': WHATEVER THE INPUT: true; the input reads as it did. -/
def termCountsSpec : ChangeSpec := { name := "termCounts", fn := fun _ => fun
  | [d1, d2, d3] => { results := [.lit (.bool true)], args := [d1, d2, d3] }
  | _ => none }
def termCountsRow : OpenClaim := { program := "ytilolaednbcaoaa", sum := "dc736af8902975716364f76b81c9c72b2e0050a998a3f8e7f2da8a5cfab1f080", func := "canteen/canteenlaw01.TermCounts", spec := "termCounts", unfollowed := true, recurses := true, apart := false }
def TermCountsSaid : Prop := termCountsRow.holds Try.pinned (OpenSpec.ofChange termCountsSpec)

/-- ITS FALSE NEIGHBOUR: 'it returns false'. Refute it at one input. -/
def termCountsWrong : ChangeSpec := { name := "termCounts", fn := fun _ => fun
  | [d1, d2, d3] => { results := [.lit (.bool false)], args := [d1, d2, d3] }
  | _ => none }
def TermCountsWrongFalsely : Prop := termCountsRow.holds Try.pinned (OpenSpec.ofChange termCountsWrong)

/-- 'canteenlaw01.TermNumbers': WHATEVER THE INPUT: true; the input reads as it did. -/
def termNumbersSpec : ChangeSpec := { name := "termNumbers", fn := fun _ => fun
  | [d1, d2, d3] => { results := [.lit (.bool true)], args := [d1, d2, d3] }
  | _ => none }
def termNumbersRow : OpenClaim := { program := "ytilolaednbcaoaa", sum := "dc736af8902975716364f76b81c9c72b2e0050a998a3f8e7f2da8a5cfab1f080", func := "canteen/canteenlaw01.TermNumbers", spec := "termNumbers", unfollowed := true, recurses := true, apart := false }
def TermNumbersSaid : Prop := termNumbersRow.holds Try.pinned (OpenSpec.ofChange termNumbersSpec)

/-- ITS FALSE NEIGHBOUR: 'it returns false'. Refute it at one input. -/
def termNumbersWrong : ChangeSpec := { name := "termNumbers", fn := fun _ => fun
  | [d1, d2, d3] => { results := [.lit (.bool false)], args := [d1, d2, d3] }
  | _ => none }
def TermNumbersWrongFalsely : Prop := termNumbersRow.holds Try.pinned (OpenSpec.ofChange termNumbersWrong)

/-- 'canteenlaw01.TermMenus': WHATEVER THE INPUT: true; the input reads as it did. -/
def termMenusSpec : ChangeSpec := { name := "termMenus", fn := fun _ => fun
  | [d1, d2, d3] => { results := [.lit (.bool true)], args := [d1, d2, d3] }
  | _ => none }
def termMenusRow : OpenClaim := { program := "ytilolaednbcaoaa", sum := "dc736af8902975716364f76b81c9c72b2e0050a998a3f8e7f2da8a5cfab1f080", func := "canteen/canteenlaw01.TermMenus", spec := "termMenus", unfollowed := true, recurses := true, apart := false }
def TermMenusSaid : Prop := termMenusRow.holds Try.pinned (OpenSpec.ofChange termMenusSpec)

/-- ITS FALSE NEIGHBOUR: 'it returns false'. Refute it at one input. -/
def termMenusWrong : ChangeSpec := { name := "termMenus", fn := fun _ => fun
  | [d1, d2, d3] => { results := [.lit (.bool false)], args := [d1, d2, d3] }
  | _ => none }
def TermMenusWrongFalsely : Prop := termMenusRow.holds Try.pinned (OpenSpec.ofChange termMenusWrong)

/-- 'canteenlaw01.TermDays': WHATEVER THE INPUT: true; the input reads as it did. -/
def termDaysSpec : ChangeSpec := { name := "termDays", fn := fun _ => fun
  | [d1, d2, d3] => { results := [.lit (.bool true)], args := [d1, d2, d3] }
  | _ => none }
def termDaysRow : OpenClaim := { program := "ytilolaednbcaoaa", sum := "dc736af8902975716364f76b81c9c72b2e0050a998a3f8e7f2da8a5cfab1f080", func := "canteen/canteenlaw01.TermDays", spec := "termDays", unfollowed := true, recurses := true, apart := false }
def TermDaysSaid : Prop := termDaysRow.holds Try.pinned (OpenSpec.ofChange termDaysSpec)

/-- ITS FALSE NEIGHBOUR: 'it returns false'. Refute it at one input. -/
def termDaysWrong : ChangeSpec := { name := "termDays", fn := fun _ => fun
  | [d1, d2, d3] => { results := [.lit (.bool false)], args := [d1, d2, d3] }
  | _ => none }
def TermDaysWrongFalsely : Prop := termDaysRow.holds Try.pinned (OpenSpec.ofChange termDaysWrong)

/-- 'canteenlaw01.TermCloses': WHATEVER THE INPUT: true; the input reads as it did. -/
def termClosesSpec : ChangeSpec := { name := "termCloses", fn := fun _ => fun
  | [d1, d2] => { results := [.lit (.bool true)], args := [d1, d2] }
  | _ => none }
def termClosesRow : OpenClaim := { program := "ytilolaednbcaoaa", sum := "dc736af8902975716364f76b81c9c72b2e0050a998a3f8e7f2da8a5cfab1f080", func := "canteen/canteenlaw01.TermCloses", spec := "termCloses", inPlace := ["slices.overlaps[int]"], unfollowed := true, recurses := true, apart := false }
def TermClosesSaid : Prop := termClosesRow.holds Try.pinned (OpenSpec.ofChange termClosesSpec)

/-- ITS FALSE NEIGHBOUR: 'it returns false'. Refute it at one input. -/
def termClosesWrong : ChangeSpec := { name := "termCloses", fn := fun _ => fun
  | [d1, d2] => { results := [.lit (.bool false)], args := [d1, d2] }
  | _ => none }
def TermClosesWrongFalsely : Prop := termClosesRow.holds Try.pinned (OpenSpec.ofChange termClosesWrong)

/-- 'canteentop.TopDays': WHATEVER THE INPUT: true; the input reads as it did. -/
def topDaysSpec : ChangeSpec := { name := "topDays", fn := fun _ => fun
  | [d1, d2, d3] => { results := [.lit (.bool true)], args := [d1, d2, d3] }
  | _ => none }
def topDaysRow : OpenClaim := { program := "ytilolaednbcaoaa", sum := "dc736af8902975716364f76b81c9c72b2e0050a998a3f8e7f2da8a5cfab1f080", func := "canteen/canteentop.TopDays", spec := "topDays", inPlace := ["slices.overlaps[int]"], unfollowed := true, recurses := true, apart := false }
def TopDaysSaid : Prop := topDaysRow.holds Try.pinned (OpenSpec.ofChange topDaysSpec)

/-- ITS FALSE NEIGHBOUR: 'it returns false'. Refute it at one input. -/
def topDaysWrong : ChangeSpec := { name := "topDays", fn := fun _ => fun
  | [d1, d2, d3] => { results := [.lit (.bool false)], args := [d1, d2, d3] }
  | _ => none }
def TopDaysWrongFalsely : Prop := topDaysRow.holds Try.pinned (OpenSpec.ofChange topDaysWrong)

/- THE SECOND FORM. 'bulk': how many values and letters a reading holds, each counted each time it is reached (what is shared counts as often as it is met; a slice's spare places count too). A statement '..UptoSaid' is the law's where the arguments, and the package variables that the reading takes, are together of bulk at most 1048576: NARROWER than '..Said'. Prove '..Said' where nothing that the law and all that it calls make is longer than what came in: it says more and counts as full. Else prove '..UptoSaid'. A law counts once. -/
mutual
def uptoBulk {H : Type} : DataW H → Nat
  | .lit (.string bytes) => bytes.length + 1
  | .lit _ => 1
  | .nil => 1
  | .ptr d => uptoBulk d + 1
  | .slice elems spare => uptoBulkAll elems + uptoBulkAll spare + 1
  | .agg parts => uptoBulkAll parts + 1
  | .iface _ d => uptoBulk d + 1
  | .map entries => uptoBulkEntries entries + 1
  | .held _ => 1
def uptoBulkAll {H : Type} : List (DataW H) → Nat
  | [] => 0
  | d :: r => uptoBulk d + uptoBulkAll r
def uptoBulkEntries {H : Type} : List (Lit × DataW H) → Nat
  | [] => 0
  | x :: r => uptoBulkEntry x + uptoBulkEntries r
def uptoBulkEntry {H : Type} : Lit × DataW H → Nat
  | (.string bytes, d) => bytes.length + uptoBulk d + 1
  | (_, d) => uptoBulk d + 1
 end
def uptoSmall : (H : Type) → List (DataW H) → Bool := fun _ ds => decide (uptoBulkAll ds ≤ 1048576)
def OpenSpec.upto (s : _root_.Go.ChangeSpec) : _root_.Go.OpenSpec := { _root_.Go.OpenSpec.ofChange s with cond := some uptoSmall }

/-- 'canteenlaw01.TermCounts', WHERE WHAT IT READS IS OF BULK AT MOST 1048576: true; the input reads as it did. -/
def termCountsUptoRow : OpenClaim := { program := "ytilolaednbcaoaa", sum := "dc736af8902975716364f76b81c9c72b2e0050a998a3f8e7f2da8a5cfab1f080", func := "canteen/canteenlaw01.TermCounts", spec := "termCounts", unfollowed := true, recurses := true, apart := false, narrowed := true }
def TermCountsUptoSaid : Prop := termCountsUptoRow.holds Try.pinned (OpenSpec.upto termCountsSpec)

/-- 'canteenlaw01.TermNumbers', WHERE WHAT IT READS IS OF BULK AT MOST 1048576: true; the input reads as it did. -/
def termNumbersUptoRow : OpenClaim := { program := "ytilolaednbcaoaa", sum := "dc736af8902975716364f76b81c9c72b2e0050a998a3f8e7f2da8a5cfab1f080", func := "canteen/canteenlaw01.TermNumbers", spec := "termNumbers", unfollowed := true, recurses := true, apart := false, narrowed := true }
def TermNumbersUptoSaid : Prop := termNumbersUptoRow.holds Try.pinned (OpenSpec.upto termNumbersSpec)

/-- 'canteenlaw01.TermMenus', WHERE WHAT IT READS IS OF BULK AT MOST 1048576: true; the input reads as it did. -/
def termMenusUptoRow : OpenClaim := { program := "ytilolaednbcaoaa", sum := "dc736af8902975716364f76b81c9c72b2e0050a998a3f8e7f2da8a5cfab1f080", func := "canteen/canteenlaw01.TermMenus", spec := "termMenus", unfollowed := true, recurses := true, apart := false, narrowed := true }
def TermMenusUptoSaid : Prop := termMenusUptoRow.holds Try.pinned (OpenSpec.upto termMenusSpec)

/-- 'canteenlaw01.TermDays', WHERE WHAT IT READS IS OF BULK AT MOST 1048576: true; the input reads as it did. -/
def termDaysUptoRow : OpenClaim := { program := "ytilolaednbcaoaa", sum := "dc736af8902975716364f76b81c9c72b2e0050a998a3f8e7f2da8a5cfab1f080", func := "canteen/canteenlaw01.TermDays", spec := "termDays", unfollowed := true, recurses := true, apart := false, narrowed := true }
def TermDaysUptoSaid : Prop := termDaysUptoRow.holds Try.pinned (OpenSpec.upto termDaysSpec)

/-- 'canteenlaw01.TermCloses', WHERE WHAT IT READS IS OF BULK AT MOST 1048576: true; the input reads as it did. -/
def termClosesUptoRow : OpenClaim := { program := "ytilolaednbcaoaa", sum := "dc736af8902975716364f76b81c9c72b2e0050a998a3f8e7f2da8a5cfab1f080", func := "canteen/canteenlaw01.TermCloses", spec := "termCloses", inPlace := ["slices.overlaps[int]"], unfollowed := true, recurses := true, apart := false, narrowed := true }
def TermClosesUptoSaid : Prop := termClosesUptoRow.holds Try.pinned (OpenSpec.upto termClosesSpec)

/-- 'canteentop.TopDays', WHERE WHAT IT READS IS OF BULK AT MOST 1048576: true; the input reads as it did. -/
def topDaysUptoRow : OpenClaim := { program := "ytilolaednbcaoaa", sum := "dc736af8902975716364f76b81c9c72b2e0050a998a3f8e7f2da8a5cfab1f080", func := "canteen/canteentop.TopDays", spec := "topDays", inPlace := ["slices.overlaps[int]"], unfollowed := true, recurses := true, apart := false, narrowed := true }
def TopDaysUptoSaid : Prop := topDaysUptoRow.holds Try.pinned (OpenSpec.upto topDaysSpec)

end Rows
end Go.Proofs.Ytilolaednbcaoaa
