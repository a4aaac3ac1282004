/- What else is asked in the theorem of chapter 4, opened. -/
import Derived.Test.YtnjaacmcdkiilaaOpenI
set_option linter.unusedVariables false
namespace Go.Proofs.Ytnjaacmcdkiilaa
open Go.ChangeShapes Go.WideShapes Go.ChangeAt Go.RowKit Go.Joins Go.Deep

set_option maxRecDepth 100000 in
theorem open_extra {H : Type} {enc : TypeId × Value → H} {W : World} {r : Reach} {b0 : Nat} {v : Value} {d : DataW H} {p : List MemPlace} (hv : Value.okWide Try.prog W r b0 62 v)
    (h : DataW.Trod enc Try.prog W 0 (fun _ => true) true 62 v d p) :
    ∃ (N K : Int) (a : Option Addr) (xs : List Int) (cap : Nat), v = .agg #[.int .i64 N, .int .i64 K, .slice a xs.length cap] ∧ xs.length ≤ 9223372036854775807 ∧ (xs.length ≤ 140737488355328 → Ints W a xs) ∧ (-9223372036854775808 ≤ N ∧ N ≤ 9223372036854775807) ∧ (-9223372036854775808 ≤ K ∧ K ≤ 9223372036854775807) := by
  obtain ⟨c0, c1, c2, y0, y1, y2, m, rfl, _, _, hy0, hy1, hy2⟩ := open_agg3 Try.underlying62 (by kernel_rfl) (by kernel_rfl) hv h
  obtain ⟨x, e0, _, wx⟩ := DataW.trod_int Try.underlying3 hy0
  obtain ⟨y, e1, _, wy⟩ := DataW.trod_int Try.underlying3 hy1
  obtain ⟨a, xs, cap, rfl, l1, k1⟩ := open_ints_at hy2
  simp at e0 e1
  subst e0 e1
  exact ⟨x, y, a, xs, cap, rfl, l1, k1, wf_i64 wx, wf_i64 wy⟩
end Go.Proofs.Ytnjaacmcdkiilaa
