/-
  No cell of these rows narrows 'for every input' (looked for: loops, veiled, ifaces, maps, wideKeys, modest, calm, conditions, laid).
  DERIVED. THE GIVEN ROWS OF THIS SEAT. 3 by the template 'for every input the law returns true; each argument reads behind the call as it read before'; 0 by the template 'total and deterministic' (their statements: YtongejajkifccabTotals.lean).
  GIVEN WITH THE SEED: the statements are not yours to turn. If you find one false, say at which input.
  Laid BY PROGRAM, IN A SANDBOX (cutbox-rows.mjs): the forced cells as the released guide's own fill.sh prints them over the translation b9c7d23b0b5c9532… (all of the seat's roots in one cut). By AI agents, Wed Nov 11 2026. No macro, syntax, notation, axiom, sorry.
-/
import Derived.Test.YtongejajkifccabChecked
import GoSem.Claim
import GoSem.ClaimJoined
import GoSem.ClaimMapViews
import Derived.JoinedTies
import Derived.KernelRfl
namespace Go.Proofs.Ytongejajkifccab
/- THE CELL 'sum', in the pinned program and in every row, IS THE sha256 OF THE DUMP (.gsa) THAT YtongejajkifccabProg.lean LOADS. Nothing in Lean hashes anything: it is a label: what it is worth is what the hold of that sum in a sandbox is worth. -/
noncomputable def Try.pinned : Pinned := { name := "ytongejajkifccab", sum := "b9c7d23b0b5c9532a0ed14808da82d1f9bd12d2276885fbe7656e4ead502490b", checked := Try.checked }
namespace Rows
def none {H : Type} : Left H := { results := [], args := [] }

/-- 'canteenlaw02.DishMenus': WHATEVER THE INPUT: true; the input reads as it did. -/
def dishMenusSpec : ChangeSpec := { name := "dishMenus", fn := fun _ => fun
  | [d1, d2] => { results := [.lit (.bool true)], args := [d1, d2] }
  | _ => none }
def dishMenusRow : OpenClaim := { program := "ytongejajkifccab", sum := "b9c7d23b0b5c9532a0ed14808da82d1f9bd12d2276885fbe7656e4ead502490b", func := "canteen/canteenlaw02.DishMenus", spec := "dishMenus", apart := false }
def DishMenusSaid : Prop := dishMenusRow.holds Try.pinned (OpenSpec.ofChange dishMenusSpec)

/-- ITS FALSE NEIGHBOUR: 'it returns false'. Refute it at one input. -/
def dishMenusWrong : ChangeSpec := { name := "dishMenus", fn := fun _ => fun
  | [d1, d2] => { results := [.lit (.bool false)], args := [d1, d2] }
  | _ => none }
def DishMenusWrongFalsely : Prop := dishMenusRow.holds Try.pinned (OpenSpec.ofChange dishMenusWrong)

/-- 'canteentop.TopLabels': WHATEVER THE INPUT: true; the input reads as it did. -/
def topLabelsSpec : ChangeSpec := { name := "topLabels", fn := fun _ => fun
  | [d1, d2, d3] => { results := [.lit (.bool true)], args := [d1, d2, d3] }
  | _ => none }
def topLabelsRow : OpenClaim := { program := "ytongejajkifccab", sum := "b9c7d23b0b5c9532a0ed14808da82d1f9bd12d2276885fbe7656e4ead502490b", func := "canteen/canteentop.TopLabels", spec := "topLabels", unfollowed := true, recurses := true, apart := false }
def TopLabelsSaid : Prop := topLabelsRow.holds Try.pinned (OpenSpec.ofChange topLabelsSpec)

/-- ITS FALSE NEIGHBOUR: 'it returns false'. Refute it at one input. -/
def topLabelsWrong : ChangeSpec := { name := "topLabels", fn := fun _ => fun
  | [d1, d2, d3] => { results := [.lit (.bool false)], args := [d1, d2, d3] }
  | _ => none }
def TopLabelsWrongFalsely : Prop := topLabelsRow.holds Try.pinned (OpenSpec.ofChange topLabelsWrong)

/-- 'canteentop.TopLattice': WHATEVER THE INPUT: true; the input reads as it did. -/
def topLatticeSpec : ChangeSpec := { name := "topLattice", fn := fun _ => fun
  | [d1, d2] => { results := [.lit (.bool true)], args := [d1, d2] }
  | _ => none }
def topLatticeRow : OpenClaim := { program := "ytongejajkifccab", sum := "b9c7d23b0b5c9532a0ed14808da82d1f9bd12d2276885fbe7656e4ead502490b", func := "canteen/canteentop.TopLattice", spec := "topLattice", apart := false }
def TopLatticeSaid : Prop := topLatticeRow.holds Try.pinned (OpenSpec.ofChange topLatticeSpec)

/-- ITS FALSE NEIGHBOUR: 'it returns false'. Refute it at one input. -/
def topLatticeWrong : ChangeSpec := { name := "topLattice", fn := fun _ => fun
  | [d1, d2] => { results := [.lit (.bool false)], args := [d1, d2] }
  | _ => none }
def TopLatticeWrongFalsely : Prop := topLatticeRow.holds Try.pinned (OpenSpec.ofChange topLatticeWrong)

/- THE SECOND FORM. 'bulk': how many values and letters a reading holds, each counted each time it is reached (what is shared counts as often as it is met; a slice's spare places count too). A statement '..UptoSaid' is the law's where the arguments, and the package variables that the reading takes, are together of bulk at most 1048576: NARROWER than '..Said'. Prove '..Said' where nothing that the law and all that it calls make is longer than what came in: it says more and counts as full. Else prove '..UptoSaid'. A law counts once. -/
mutual
def uptoBulk {H : Type} : DataW H → Nat
  | .lit (.string bytes) => bytes.length + 1
  | .lit _ => 1
  | .nil => 1
  | .ptr d => uptoBulk d + 1
  | .slice elems spare => uptoBulkAll elems + uptoBulkAll spare + 1
  | .agg parts => uptoBulkAll parts + 1
  | .iface _ d => uptoBulk d + 1
  | .map entries => uptoBulkEntries entries + 1
  | .held _ => 1
def uptoBulkAll {H : Type} : List (DataW H) → Nat
  | [] => 0
  | d :: r => uptoBulk d + uptoBulkAll r
def uptoBulkEntries {H : Type} : List (Lit × DataW H) → Nat
  | [] => 0
  | x :: r => uptoBulkEntry x + uptoBulkEntries r
def uptoBulkEntry {H : Type} : Lit × DataW H → Nat
  | (.string bytes, d) => bytes.length + uptoBulk d + 1
  | (_, d) => uptoBulk d + 1
 end
def uptoSmall : (H : Type) → List (DataW H) → Bool := fun _ ds => decide (uptoBulkAll ds ≤ 1048576)
def OpenSpec.upto (s : _root_.Go.ChangeSpec) : _root_.Go.OpenSpec := { _root_.Go.OpenSpec.ofChange s with cond := some uptoSmall }

/-- 'canteenlaw02.DishMenus', WHERE WHAT IT READS IS OF BULK AT MOST 1048576: true; the input reads as it did. -/
def dishMenusUptoRow : OpenClaim := { program := "ytongejajkifccab", sum := "b9c7d23b0b5c9532a0ed14808da82d1f9bd12d2276885fbe7656e4ead502490b", func := "canteen/canteenlaw02.DishMenus", spec := "dishMenus", apart := false, narrowed := true }
def DishMenusUptoSaid : Prop := dishMenusUptoRow.holds Try.pinned (OpenSpec.upto dishMenusSpec)

/-- 'canteentop.TopLabels', WHERE WHAT IT READS IS OF BULK AT MOST 1048576: true; the input reads as it did. -/
def topLabelsUptoRow : OpenClaim := { program := "ytongejajkifccab", sum := "b9c7d23b0b5c9532a0ed14808da82d1f9bd12d2276885fbe7656e4ead502490b", func := "canteen/canteentop.TopLabels", spec := "topLabels", unfollowed := true, recurses := true, apart := false, narrowed := true }
def TopLabelsUptoSaid : Prop := topLabelsUptoRow.holds Try.pinned (OpenSpec.upto topLabelsSpec)

/-- 'canteentop.TopLattice', WHERE WHAT IT READS IS OF BULK AT MOST 1048576: true; the input reads as it did. -/
def topLatticeUptoRow : OpenClaim := { program := "ytongejajkifccab", sum := "b9c7d23b0b5c9532a0ed14808da82d1f9bd12d2276885fbe7656e4ead502490b", func := "canteen/canteentop.TopLattice", spec := "topLattice", apart := false, narrowed := true }
def TopLatticeUptoSaid : Prop := topLatticeUptoRow.holds Try.pinned (OpenSpec.upto topLatticeSpec)

end Rows
end Go.Proofs.Ytongejajkifccab
