/- Rules, questions, lists of steps and of swaps that came in. -/
import Derived.Test.YtongejajkifccaaOpenB
import Derived.Test.YtongejajkifccaaSteps
set_option linter.unusedVariables false
namespace Go.Proofs.Ytongejajkifccaa
open Go.ChangeShapes Go.WideShapes Go.ChangeAt Go.RowKit Go.Joins Go.Deep

set_option maxRecDepth 100000 in
theorem open_rule {H : Type} {enc : TypeId × Value → H} {W : World} {r : Reach} {b0 : Nat} {v : Value} {d : DataW H} {p : List MemPlace} (hv : Value.okWide Try.prog W r b0 55 v)
    (h : DataW.Trod enc Try.prog W 0 (fun _ => true) true 55 v d p) :
    ∃ (a : Option Addr) (xs : List Int) (cap : Nat) (t : Int), v = .agg #[.slice a xs.length cap, .int .i64 t] ∧ xs.length ≤ 9223372036854775807 ∧ (xs.length ≤ 140737488355328 → Ints W a xs) ∧ (-9223372036854775808 ≤ t ∧ t ≤ 9223372036854775807) := by
  obtain ⟨c0, c1, y0, y1, m, rfl, _, _, hy0, hy1⟩ := open_agg2 Try.underlying55 (by kernel_rfl) (by kernel_rfl) hv h
  obtain ⟨a, xs, cap, rfl, l1, k1⟩ := open_ints_at hy0
  obtain ⟨x, e0, _, wx⟩ := DataW.trod_int Try.underlying3 hy1
  simp at e0
  subst e0
  exact ⟨a, xs, cap, x, rfl, l1, k1, wf_i64 wx⟩
end Go.Proofs.Ytongejajkifccaa
