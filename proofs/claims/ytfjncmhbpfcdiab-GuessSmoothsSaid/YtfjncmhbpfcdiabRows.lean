/-
  No cell of these rows narrows 'for every input' (looked for: loops, veiled, ifaces, maps, wideKeys, modest, calm, conditions, laid).
  DERIVED. THE GIVEN ROWS OF THIS SEAT. 3 by the template 'for every input the law returns true; each argument reads behind the call as it read before'; 0 by the template 'total and deterministic' (their statements: YtfjncmhbpfcdiabTotals.lean).
  GIVEN WITH THE SEED: the statements are not yours to turn. If you find one false, say at which input.
  Laid BY PROGRAM, IN A SANDBOX (cutbox-rows.mjs): the forced cells as the released guide's own fill.sh prints them over the translation 1566f3800fa57b06… (all of the seat's roots in one cut). By AI agents, Wed Nov 11 2026. No macro, syntax, notation, axiom, sorry.
-/
import Derived.Test.YtfjncmhbpfcdiabChecked
import GoSem.Claim
import GoSem.ClaimJoined
import GoSem.ClaimMapViews
import Derived.JoinedTies
import Derived.KernelRfl
namespace Go.Proofs.Ytfjncmhbpfcdiab
/- THE CELL 'sum', in the pinned program and in every row, IS THE sha256 OF THE DUMP (.gsa) THAT YtfjncmhbpfcdiabProg.lean LOADS. Nothing in Lean hashes anything: it is a label: what it is worth is what the hold of that sum in a sandbox is worth. -/
noncomputable def Try.pinned : Pinned := { name := "ytfjncmhbpfcdiab", sum := "1566f3800fa57b069bacdb8ff88e5c4c07466120abe4c5e5ab7adbacb1f3b776", checked := Try.checked }
namespace Rows
def none {H : Type} : Left H := { results := [], args := [] }

/-- 'canteenlaw06.GuessTails': WHATEVER THE INPUT: true; the input reads as it did. -/
def guessTailsSpec : ChangeSpec := { name := "guessTails", fn := fun _ => fun
  | [d1, d2] => { results := [.lit (.bool true)], args := [d1, d2] }
  | _ => none }
def guessTailsRow : OpenClaim := { program := "ytfjncmhbpfcdiab", sum := "1566f3800fa57b069bacdb8ff88e5c4c07466120abe4c5e5ab7adbacb1f3b776", func := "canteen/canteenlaw06.GuessTails", spec := "guessTails", apart := false }
def GuessTailsSaid : Prop := guessTailsRow.holds Try.pinned (OpenSpec.ofChange guessTailsSpec)

/-- ITS FALSE NEIGHBOUR: 'it returns false'. Refute it at one input. -/
def guessTailsWrong : ChangeSpec := { name := "guessTails", fn := fun _ => fun
  | [d1, d2] => { results := [.lit (.bool false)], args := [d1, d2] }
  | _ => none }
def GuessTailsWrongFalsely : Prop := guessTailsRow.holds Try.pinned (OpenSpec.ofChange guessTailsWrong)

/-- 'canteenlaw06.GuessWorse': WHATEVER THE INPUT: true; the input reads as it did. -/
def guessWorseSpec : ChangeSpec := { name := "guessWorse", fn := fun _ => fun
  | [d1, d2, d3] => { results := [.lit (.bool true)], args := [d1, d2, d3] }
  | _ => none }
def guessWorseRow : OpenClaim := { program := "ytfjncmhbpfcdiab", sum := "1566f3800fa57b069bacdb8ff88e5c4c07466120abe4c5e5ab7adbacb1f3b776", func := "canteen/canteenlaw06.GuessWorse", spec := "guessWorse", recurses := true, apart := false }
def GuessWorseSaid : Prop := guessWorseRow.holds Try.pinned (OpenSpec.ofChange guessWorseSpec)

/-- ITS FALSE NEIGHBOUR: 'it returns false'. Refute it at one input. -/
def guessWorseWrong : ChangeSpec := { name := "guessWorse", fn := fun _ => fun
  | [d1, d2, d3] => { results := [.lit (.bool false)], args := [d1, d2, d3] }
  | _ => none }
def GuessWorseWrongFalsely : Prop := guessWorseRow.holds Try.pinned (OpenSpec.ofChange guessWorseWrong)

/-- 'canteenlaw06.GuessSmooths': WHATEVER THE INPUT: true; the input reads as it did. -/
def guessSmoothsSpec : ChangeSpec := { name := "guessSmooths", fn := fun _ => fun
  | [d1, d2, d3] => { results := [.lit (.bool true)], args := [d1, d2, d3] }
  | _ => none }
def guessSmoothsRow : OpenClaim := { program := "ytfjncmhbpfcdiab", sum := "1566f3800fa57b069bacdb8ff88e5c4c07466120abe4c5e5ab7adbacb1f3b776", func := "canteen/canteenlaw06.GuessSmooths", spec := "guessSmooths", recurses := true, apart := false }
def GuessSmoothsSaid : Prop := guessSmoothsRow.holds Try.pinned (OpenSpec.ofChange guessSmoothsSpec)

/-- ITS FALSE NEIGHBOUR: 'it returns false'. Refute it at one input. -/
def guessSmoothsWrong : ChangeSpec := { name := "guessSmooths", fn := fun _ => fun
  | [d1, d2, d3] => { results := [.lit (.bool false)], args := [d1, d2, d3] }
  | _ => none }
def GuessSmoothsWrongFalsely : Prop := guessSmoothsRow.holds Try.pinned (OpenSpec.ofChange guessSmoothsWrong)

/- THE SECOND FORM. 'bulk': how many values and letters a reading holds, each counted each time it is reached (what is shared counts as often as it is met; a slice's spare places count too). A statement '..UptoSaid' is the law's where the arguments, and the package variables that the reading takes, are together of bulk at most 1048576: NARROWER than '..Said'. Prove '..Said' where nothing that the law and all that it calls make is longer than what came in: it says more and counts as full. Else prove '..UptoSaid'. A law counts once. -/
mutual
def uptoBulk {H : Type} : DataW H → Nat
  | .lit (.string bytes) => bytes.length + 1
  | .lit _ => 1
  | .nil => 1
  | .ptr d => uptoBulk d + 1
  | .slice elems spare => uptoBulkAll elems + uptoBulkAll spare + 1
  | .agg parts => uptoBulkAll parts + 1
  | .iface _ d => uptoBulk d + 1
  | .map entries => uptoBulkEntries entries + 1
  | .held _ => 1
def uptoBulkAll {H : Type} : List (DataW H) → Nat
  | [] => 0
  | d :: r => uptoBulk d + uptoBulkAll r
def uptoBulkEntries {H : Type} : List (Lit × DataW H) → Nat
  | [] => 0
  | x :: r => uptoBulkEntry x + uptoBulkEntries r
def uptoBulkEntry {H : Type} : Lit × DataW H → Nat
  | (.string bytes, d) => bytes.length + uptoBulk d + 1
  | (_, d) => uptoBulk d + 1
 end
def uptoSmall : (H : Type) → List (DataW H) → Bool := fun _ ds => decide (uptoBulkAll ds ≤ 1048576)
def OpenSpec.upto (s : _root_.Go.ChangeSpec) : _root_.Go.OpenSpec := { _root_.Go.OpenSpec.ofChange s with cond := some uptoSmall }

/-- 'canteenlaw06.GuessTails', WHERE WHAT IT READS IS OF BULK AT MOST 1048576: true; the input reads as it did. -/
def guessTailsUptoRow : OpenClaim := { program := "ytfjncmhbpfcdiab", sum := "1566f3800fa57b069bacdb8ff88e5c4c07466120abe4c5e5ab7adbacb1f3b776", func := "canteen/canteenlaw06.GuessTails", spec := "guessTails", apart := false, narrowed := true }
def GuessTailsUptoSaid : Prop := guessTailsUptoRow.holds Try.pinned (OpenSpec.upto guessTailsSpec)

/-- 'canteenlaw06.GuessWorse', WHERE WHAT IT READS IS OF BULK AT MOST 1048576: true; the input reads as it did. -/
def guessWorseUptoRow : OpenClaim := { program := "ytfjncmhbpfcdiab", sum := "1566f3800fa57b069bacdb8ff88e5c4c07466120abe4c5e5ab7adbacb1f3b776", func := "canteen/canteenlaw06.GuessWorse", spec := "guessWorse", recurses := true, apart := false, narrowed := true }
def GuessWorseUptoSaid : Prop := guessWorseUptoRow.holds Try.pinned (OpenSpec.upto guessWorseSpec)

/-- 'canteenlaw06.GuessSmooths', WHERE WHAT IT READS IS OF BULK AT MOST 1048576: true; the input reads as it did. -/
def guessSmoothsUptoRow : OpenClaim := { program := "ytfjncmhbpfcdiab", sum := "1566f3800fa57b069bacdb8ff88e5c4c07466120abe4c5e5ab7adbacb1f3b776", func := "canteen/canteenlaw06.GuessSmooths", spec := "guessSmooths", recurses := true, apart := false, narrowed := true }
def GuessSmoothsUptoSaid : Prop := guessSmoothsUptoRow.holds Try.pinned (OpenSpec.upto guessSmoothsSpec)

end Rows
end Go.Proofs.Ytfjncmhbpfcdiab
