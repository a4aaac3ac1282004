/-
  No cell of these rows narrows 'for every input' (looked for: loops, veiled, ifaces, maps, wideKeys, modest, calm, conditions, laid).
  DERIVED. THE GIVEN ROWS OF THIS SEAT. 4 by the template 'for every input the law returns true; each argument reads behind the call as it read before'; 0 by the template 'total and deterministic' (their statements: YteolckphafblmabTotals.lean).
  GIVEN WITH THE SEED: the statements are not yours to turn. If you find one false, say at which input.
  Laid BY PROGRAM, IN A SANDBOX (cutbox-rows.mjs): the forced cells as the released guide's own fill.sh prints them over the translation 553200ca9cbddabc… (all of the seat's roots in one cut). By AI agents, Wed Nov 11 2026. No macro, syntax, notation, axiom, sorry.
-/
import Derived.Test.YteolckphafblmabChecked
import GoSem.Claim
import GoSem.ClaimJoined
import GoSem.ClaimMapViews
import Derived.JoinedTies
import Derived.KernelRfl
namespace Go.Proofs.Yteolckphafblmab
/- THE CELL 'sum', in the pinned program and in every row, IS THE sha256 OF THE DUMP (.gsa) THAT YteolckphafblmabProg.lean LOADS. Nothing in Lean hashes anything: it is a label: what it is worth is what the hold of that sum in a sandbox is worth. -/
noncomputable def Try.pinned : Pinned := { name := "yteolckphafblmab", sum := "553200ca9cbddabcc22314c70ebd287b4ee5d7bbdabd109e5d2e8fbb1d711bd8", checked := Try.checked }
namespace Rows
def none {H : Type} : Left H := { results := [], args := [] }

/-- 'canteenlaw07.KitchenHeats': WHATEVER THE INPUT: true; the input reads as it did. -/
def kitchenHeatsSpec : ChangeSpec := { name := "kitchenHeats", fn := fun _ => fun
  | [d] => { results := [.lit (.bool true)], args := [d] }
  | _ => none }
def kitchenHeatsRow : OpenClaim := { program := "yteolckphafblmab", sum := "553200ca9cbddabcc22314c70ebd287b4ee5d7bbdabd109e5d2e8fbb1d711bd8", func := "canteen/canteenlaw07.KitchenHeats", spec := "kitchenHeats", apart := false }
def KitchenHeatsSaid : Prop := kitchenHeatsRow.holds Try.pinned (OpenSpec.ofChange kitchenHeatsSpec)

/-- ITS FALSE NEIGHBOUR: 'it returns false'. Refute it at one input. -/
def kitchenHeatsWrong : ChangeSpec := { name := "kitchenHeats", fn := fun _ => fun
  | [d] => { results := [.lit (.bool false)], args := [d] }
  | _ => none }
def KitchenHeatsWrongFalsely : Prop := kitchenHeatsRow.holds Try.pinned (OpenSpec.ofChange kitchenHeatsWrong)

/-- 'canteenlaw07.KitchenJoins': WHATEVER THE INPUT: true; the input reads as it did. -/
def kitchenJoinsSpec : ChangeSpec := { name := "kitchenJoins", fn := fun _ => fun
  | [d1, d2, d3] => { results := [.lit (.bool true)], args := [d1, d2, d3] }
  | _ => none }
def kitchenJoinsRow : OpenClaim := { program := "yteolckphafblmab", sum := "553200ca9cbddabcc22314c70ebd287b4ee5d7bbdabd109e5d2e8fbb1d711bd8", func := "canteen/canteenlaw07.KitchenJoins", spec := "kitchenJoins", apart := false }
def KitchenJoinsSaid : Prop := kitchenJoinsRow.holds Try.pinned (OpenSpec.ofChange kitchenJoinsSpec)

/-- ITS FALSE NEIGHBOUR: 'it returns false'. Refute it at one input. -/
def kitchenJoinsWrong : ChangeSpec := { name := "kitchenJoins", fn := fun _ => fun
  | [d1, d2, d3] => { results := [.lit (.bool false)], args := [d1, d2, d3] }
  | _ => none }
def KitchenJoinsWrongFalsely : Prop := kitchenJoinsRow.holds Try.pinned (OpenSpec.ofChange kitchenJoinsWrong)

/-- 'canteenlaw07.KitchenSteps': WHATEVER THE INPUT: true; the input reads as it did. -/
def kitchenStepsSpec : ChangeSpec := { name := "kitchenSteps", fn := fun _ => fun
  | [d] => { results := [.lit (.bool true)], args := [d] }
  | _ => none }
def kitchenStepsRow : OpenClaim := { program := "yteolckphafblmab", sum := "553200ca9cbddabcc22314c70ebd287b4ee5d7bbdabd109e5d2e8fbb1d711bd8", func := "canteen/canteenlaw07.KitchenSteps", spec := "kitchenSteps", apart := false }
def KitchenStepsSaid : Prop := kitchenStepsRow.holds Try.pinned (OpenSpec.ofChange kitchenStepsSpec)

/-- ITS FALSE NEIGHBOUR: 'it returns false'. Refute it at one input. -/
def kitchenStepsWrong : ChangeSpec := { name := "kitchenSteps", fn := fun _ => fun
  | [d] => { results := [.lit (.bool false)], args := [d] }
  | _ => none }
def KitchenStepsWrongFalsely : Prop := kitchenStepsRow.holds Try.pinned (OpenSpec.ofChange kitchenStepsWrong)

/-- 'canteenlaw07.KitchenHolds': WHATEVER THE INPUT: true; the input reads as it did. -/
def kitchenHoldsSpec : ChangeSpec := { name := "kitchenHolds", fn := fun _ => fun
  | [d] => { results := [.lit (.bool true)], args := [d] }
  | _ => none }
def kitchenHoldsRow : OpenClaim := { program := "yteolckphafblmab", sum := "553200ca9cbddabcc22314c70ebd287b4ee5d7bbdabd109e5d2e8fbb1d711bd8", func := "canteen/canteenlaw07.KitchenHolds", spec := "kitchenHolds", apart := false }
def KitchenHoldsSaid : Prop := kitchenHoldsRow.holds Try.pinned (OpenSpec.ofChange kitchenHoldsSpec)

/-- ITS FALSE NEIGHBOUR: 'it returns false'. Refute it at one input. -/
def kitchenHoldsWrong : ChangeSpec := { name := "kitchenHolds", fn := fun _ => fun
  | [d] => { results := [.lit (.bool false)], args := [d] }
  | _ => none }
def KitchenHoldsWrongFalsely : Prop := kitchenHoldsRow.holds Try.pinned (OpenSpec.ofChange kitchenHoldsWrong)

/- THE SECOND FORM. 'bulk': how many values and letters a reading holds, each counted each time it is reached (what is shared counts as often as it is met; a slice's spare places count too). A statement '..UptoSaid' is the law's where the arguments, and the package variables that the reading takes, are together of bulk at most 1048576: NARROWER than '..Said'. Prove '..Said' where nothing that the law and all that it calls make is longer than what came in: it says more and counts as full. Else prove '..UptoSaid'. A law counts once. -/
mutual
def uptoBulk {H : Type} : DataW H → Nat
  | .lit (.string bytes) => bytes.length + 1
  | .lit _ => 1
  | .nil => 1
  | .ptr d => uptoBulk d + 1
  | .slice elems spare => uptoBulkAll elems + uptoBulkAll spare + 1
  | .agg parts => uptoBulkAll parts + 1
  | .iface _ d => uptoBulk d + 1
  | .map entries => uptoBulkEntries entries + 1
  | .held _ => 1
def uptoBulkAll {H : Type} : List (DataW H) → Nat
  | [] => 0
  | d :: r => uptoBulk d + uptoBulkAll r
def uptoBulkEntries {H : Type} : List (Lit × DataW H) → Nat
  | [] => 0
  | x :: r => uptoBulkEntry x + uptoBulkEntries r
def uptoBulkEntry {H : Type} : Lit × DataW H → Nat
  | (.string bytes, d) => bytes.length + uptoBulk d + 1
  | (_, d) => uptoBulk d + 1
 end
def uptoSmall : (H : Type) → List (DataW H) → Bool := fun _ ds => decide (uptoBulkAll ds ≤ 1048576)
def OpenSpec.upto (s : _root_.Go.ChangeSpec) : _root_.Go.OpenSpec := { _root_.Go.OpenSpec.ofChange s with cond := some uptoSmall }

/-- 'canteenlaw07.KitchenHeats', WHERE WHAT IT READS IS OF BULK AT MOST 1048576: true; the input reads as it did. -/
def kitchenHeatsUptoRow : OpenClaim := { program := "yteolckphafblmab", sum := "553200ca9cbddabcc22314c70ebd287b4ee5d7bbdabd109e5d2e8fbb1d711bd8", func := "canteen/canteenlaw07.KitchenHeats", spec := "kitchenHeats", apart := false, narrowed := true }
def KitchenHeatsUptoSaid : Prop := kitchenHeatsUptoRow.holds Try.pinned (OpenSpec.upto kitchenHeatsSpec)

/-- 'canteenlaw07.KitchenJoins', WHERE WHAT IT READS IS OF BULK AT MOST 1048576: true; the input reads as it did. -/
def kitchenJoinsUptoRow : OpenClaim := { program := "yteolckphafblmab", sum := "553200ca9cbddabcc22314c70ebd287b4ee5d7bbdabd109e5d2e8fbb1d711bd8", func := "canteen/canteenlaw07.KitchenJoins", spec := "kitchenJoins", apart := false, narrowed := true }
def KitchenJoinsUptoSaid : Prop := kitchenJoinsUptoRow.holds Try.pinned (OpenSpec.upto kitchenJoinsSpec)

/-- 'canteenlaw07.KitchenSteps', WHERE WHAT IT READS IS OF BULK AT MOST 1048576: true; the input reads as it did. -/
def kitchenStepsUptoRow : OpenClaim := { program := "yteolckphafblmab", sum := "553200ca9cbddabcc22314c70ebd287b4ee5d7bbdabd109e5d2e8fbb1d711bd8", func := "canteen/canteenlaw07.KitchenSteps", spec := "kitchenSteps", apart := false, narrowed := true }
def KitchenStepsUptoSaid : Prop := kitchenStepsUptoRow.holds Try.pinned (OpenSpec.upto kitchenStepsSpec)

/-- 'canteenlaw07.KitchenHolds', WHERE WHAT IT READS IS OF BULK AT MOST 1048576: true; the input reads as it did. -/
def kitchenHoldsUptoRow : OpenClaim := { program := "yteolckphafblmab", sum := "553200ca9cbddabcc22314c70ebd287b4ee5d7bbdabd109e5d2e8fbb1d711bd8", func := "canteen/canteenlaw07.KitchenHolds", spec := "kitchenHolds", apart := false, narrowed := true }
def KitchenHoldsUptoSaid : Prop := kitchenHoldsUptoRow.holds Try.pinned (OpenSpec.upto kitchenHoldsSpec)

end Rows
end Go.Proofs.Yteolckphafblmab
