/- The arguments of the laws of chapter 4, opened. -/
import Derived.Test.YtnjaacmcdkiilaaOpenI
import Derived.Deep.SlicePairs
set_option linter.unusedVariables false
namespace Go.Proofs.Ytnjaacmcdkiilaa
open Go.ChangeShapes Go.WideShapes Go.ChangeAt Go.RowKit Go.Joins Go.Deep

set_option maxRecDepth 100000 in
theorem open_many {H : Type} {enc : TypeId × Value → H} {W : World} {r : Reach} {b0 : Nat} {v : Value} {d : DataW H} {p : List MemPlace} (hv : Value.okWide Try.prog W r b0 24 v) (h : DataW.Trod enc Try.prog W 0 (fun _ => true) true 24 v d p) : ∃ (x y : Int), v = .agg #[.int .i64 x, .int .i64 y] ∧ (-9223372036854775808 ≤ x ∧ x ≤ 9223372036854775807) ∧ (-9223372036854775808 ≤ y ∧ y ≤ 9223372036854775807) := by
  obtain ⟨c0, c1, y0, y1, m, rfl, _, _, hy0, hy1⟩ := open_agg2 Try.underlying24 (by kernel_rfl) (by kernel_rfl) hv h
  obtain ⟨x, e0, _, wx⟩ := DataW.trod_int Try.underlying3 hy0
  obtain ⟨y, e1, _, wy⟩ := DataW.trod_int Try.underlying3 hy1
  simp at e0 e1
  subst e0 e1
  exact ⟨x, y, rfl, wf_i64 wx, wf_i64 wy⟩
set_option maxRecDepth 100000 in
theorem open_claimed {H : Type} {enc : TypeId × Value → H} {W : World} {r : Reach} {b0 : Nat} {v : Value} {d : DataW H} {p : List MemPlace} (hv : Value.okWide Try.prog W r b0 41 v) (h : DataW.Trod enc Try.prog W 0 (fun _ => true) true 41 v d p) : ∃ (x y z : Int), v = .agg #[.int .i64 x, .int .i64 y, .int .i64 z] ∧ True ∧ True ∧ True := by
  obtain ⟨cs, rfl, hsz⟩ := okWide_struct Try.underlying41 hv
  have hC : Try.prog.cellsOf 41 = 3 := by kernel_rfl
  rw [hC] at hsz
  obtain ⟨fuel, hf⟩ := h
  obtain ⟨y0, y1, q, hx, _, h0, h1⟩ := trod_struct2 Try.underlying41 hf
  obtain ⟨b0', b1, q1, _, _, j0, j1⟩ := trod_struct2 Try.underlying39 h1
  obtain ⟨xa, ea, _, wa⟩ := DataW.trod_int Try.underlying3 h0
  obtain ⟨ya, fa, _, ua⟩ := DataW.trod_int Try.underlying3 j0
  obtain ⟨yb, fb, _, ub⟩ := DataW.trod_int Try.underlying3 j1
  have hk : Try.prog.cellsOf 39 = 2 := by kernel_rfl
  have hi : Try.prog.cellsOf 3 = 1 := by kernel_rfl
  rcases cs with ⟨l⟩
  match l, hsz with
  | [c0, c1, c2], _ =>
    simp [Value.cells, hk, hi] at ea fa fb
    subst ea fa fb
    exact ⟨_, _, _, rfl, trivial, trivial, trivial⟩
end Go.Proofs.Ytnjaacmcdkiilaa
