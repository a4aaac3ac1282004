/- A struct of two structs, opened. -/
import Derived.Test.YtbeocokdmelffaaOpen
set_option linter.unusedVariables false
namespace Go.Proofs.Ytbeocokdmelffaa
open Go.ChangeShapes Go.WideShapes Go.ChangeAt Go.RowKit Go.Joins Go.Deep

set_option maxRecDepth 100000 in
theorem open_wheels {H : Type} {enc : TypeId × Value → H} {W : World} {r : Reach} {b0 : Nat} {v : Value} {d : DataW H} {p : List MemPlace} (hv : Value.okWide Try.prog W r b0 67 v) (h : DataW.Trod enc Try.prog W 0 (fun _ => true) true 67 v d p) : ∃ (m f c n g e : Int), v = .agg #[.int .i64 m, .int .i64 f, .int .i64 c, .int .i64 n, .int .i64 g, .int .i64 e] ∧ True := by
  obtain ⟨cs, rfl, hsz⟩ := okWide_struct Try.underlying67 hv
  have hC : Try.prog.cellsOf 67 = 6 := by kernel_rfl
  rw [hC] at hsz
  obtain ⟨fuel, hf⟩ := h
  obtain ⟨y0, y1, q, hx, _, h0, h1⟩ := trod_struct2 Try.underlying67 hf
  obtain ⟨a0, a1, a2, q0, _, _, i0, i1, i2⟩ := trod_struct3 Try.underlying26 h0
  obtain ⟨b0', b1, b2, q1, _, _, j0, j1, j2⟩ := trod_struct3 Try.underlying26 h1
  obtain ⟨xa, ea, _, wa⟩ := DataW.trod_int Try.underlying3 i0
  obtain ⟨xb, eb, _, wb⟩ := DataW.trod_int Try.underlying3 i1
  obtain ⟨xc, ec, _, wc⟩ := DataW.trod_int Try.underlying3 i2
  obtain ⟨ya, fa, _, ua⟩ := DataW.trod_int Try.underlying3 j0
  obtain ⟨yb, fb, _, ub⟩ := DataW.trod_int Try.underlying3 j1
  obtain ⟨yc, fc, _, uc⟩ := DataW.trod_int Try.underlying3 j2
  have hk : Try.prog.cellsOf 26 = 3 := by kernel_rfl
  have hi : Try.prog.cellsOf 3 = 1 := by kernel_rfl
  rcases cs with ⟨l⟩
  match l, hsz with
  | [c0, c1, c2, c3, c4, c5], _ =>
    simp [Value.cells, hk, hi] at ea eb ec fa fb fc
    subst ea eb ec fa fb fc
    exact ⟨_, _, _, _, _, _, rfl, trivial⟩

end Go.Proofs.Ytbeocokdmelffaa
