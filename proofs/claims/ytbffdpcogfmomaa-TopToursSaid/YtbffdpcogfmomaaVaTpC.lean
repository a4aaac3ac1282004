/- A Trip that came in, with the capacity of its stops. -/
import Derived.Test.YtbffdpcogfmomaaVaTp
set_option linter.unusedVariables false
namespace Go.Proofs.Ytbffdpcogfmomaa
open Go.ChangeShapes Go.WideShapes Go.ChangeAt Go.RowKit Go.Joins Go.Deep

set_option maxRecDepth 100000 in
theorem open_tripC {H : Type} {enc : TypeId × Value → H} {W : World} {r : Go.Reach} {b0 : Nat} {v : Value} {d : DataW H} {p : List MemPlace} (hv : Value.okWide Try.prog W r b0 49 v)
    (h : DataW.Trod enc Try.prog W 0 (fun _ => true) true 49 v d p) :
    ∃ (A : Option Addr) (l : List St) (c : Nat) (B : Option Addr) (o : List Int) (d : Nat) (b : Int), v = .agg #[.slice A l.length c, .slice B o.length d, .int .i64 b] ∧ l.length ≤ 9223372036854775807 ∧ (l.length ≤ 140737488355328 → StsAt W A l) ∧ o.length ≤ 9223372036854775807 ∧ (o.length ≤ 140737488355328 → Ints W B o) ∧ (-9223372036854775808 ≤ b ∧ b ≤ 9223372036854775807) ∧ l.length ≤ c := by
  obtain ⟨c0, c1, c2, y0, y1, y2, m, rfl, _, _, hy0, hy1, hy2⟩ := open_agg3 Try.underlying49 (by kernel_rfl) (by kernel_rfl) hv h
  obtain ⟨ra, len, rc, rfl, hl, hm, hc⟩ := open_rows8 Try.underlying47 Try.underlying105 (by kernel_rfl) (ty_all8 (by kernel_rfl)) (by kernel_rfl) hy0
  obtain ⟨rs, h1, h2⟩ := rows_stops hc
  obtain ⟨pa, ps, pc, rfl, l1, k1⟩ := open_ints_at hy1
  obtain ⟨z, e2, _, wz⟩ := DataW.trod_int Try.underlying3 hy2
  simp at e2
  subst e2
  exact ⟨ra, rs, rc, pa, ps, pc, z, by rw [h1], by omega, h2, l1, k1, wf_i64 wz, by omega⟩
end Go.Proofs.Ytbffdpcogfmomaa
