/- The arguments of TopTours, opened. -/
import Derived.Test.YtbffdpcogfmomaaVaTp
set_option linter.unusedVariables false
namespace Go.Proofs.Ytbffdpcogfmomaa
open Go.ChangeShapes Go.WideShapes Go.ChangeAt Go.RowKit Go.Joins Go.Deep

set_option maxRecDepth 100000 in
theorem open_stops {H : Type} {enc : TypeId × Value → H} {W : World} {r : Go.Reach} {b0 : Nat} {v : Value} {d : DataW H} {p : List MemPlace} (hv : Value.okWide Try.prog W r b0 47 v)
    (h : DataW.Trod enc Try.prog W 0 (fun _ => true) true 47 v d p) :
    ∃ (a : Option Addr) (l : List St) (cap : Nat), v = .slice a l.length cap ∧ l.length ≤ 9223372036854775807 ∧ (l.length ≤ 140737488355328 → StsAt W a l) ∧ l.length ≤ cap := by
  obtain ⟨a, len, cap, rfl, hl, hm, hc⟩ := open_int_rows Try.underlying47 Try.underlying105 (by kernel_rfl) (ty_all8 (by kernel_rfl)) (by kernel_rfl) hv h
  obtain ⟨rs, h1, h2⟩ := rows_stops hc
  exact ⟨a, rs, cap, by rw [h1], by omega, h2, by omega⟩
set_option maxRecDepth 100000 in
theorem open_round {H : Type} {enc : TypeId × Value → H} {W : World} {r : Go.Reach} {b0 : Nat} {v : Value} {d : DataW H} {p : List MemPlace} (hv : Value.okWide Try.prog W r b0 72 v)
    (h : DataW.Trod enc Try.prog W 0 (fun _ => true) true 72 v d p) :
    ∃ (P : Option Addr) (p : List Int) (pc : Nat) (B : Option Addr) (o : List Int) (oc : Nat) (O : Option Addr) (q : List Int) (qc : Nat) (b : Int), v = .agg #[.slice P p.length pc, .slice B o.length oc, .slice O q.length qc, .int .i64 b] ∧ p.length ≤ 9223372036854775807 ∧ (p.length ≤ 140737488355328 → Ints W P p) ∧ o.length ≤ 9223372036854775807 ∧ (o.length ≤ 140737488355328 → Ints W B o) ∧ q.length ≤ 9223372036854775807 ∧ (q.length ≤ 140737488355328 → Ints W O q) ∧ (-9223372036854775808 ≤ b ∧ b ≤ 9223372036854775807) := by
  obtain ⟨c0, c1, c2, c3, y0, y1, y2, y3, m, rfl, _, _, hy0, hy1, hy2, hy3⟩ := open_agg4 Try.underlying72 (by kernel_rfl) (by kernel_rfl) hv h
  obtain ⟨P, p, pc, rfl, l1, k1⟩ := open_ints_at hy0
  obtain ⟨B, o, oc, rfl, l2, k2⟩ := open_ints_at hy1
  obtain ⟨O, q, qc, rfl, l3, k3⟩ := open_ints_at hy2
  obtain ⟨z, e2, _, wz⟩ := DataW.trod_int Try.underlying3 hy3
  simp at e2
  subst e2
  exact ⟨P, p, pc, B, o, oc, O, q, qc, z, rfl, l1, k1, l2, k2, l3, k3, wf_i64 wz⟩
end Go.Proofs.Ytbffdpcogfmomaa
