/- Rights, prices and a cut, opened. -/
import Derived.Test.YtkepjoociidkcaaOrOpen
import Derived.Test.YtkepjoociidkcaaOrRt
set_option linter.unusedVariables false
namespace Go.Proofs.Ytkepjoociidkcaa
open Go.ChangeShapes Go.WideShapes Go.ChangeAt Go.RowKit Go.Joins Go.Deep

section
variable {H : Type} {enc : TypeId × Value → H} {W : World}
set_option maxRecDepth 100000 in
/-- A slice of structs of int only, as a field. -/
theorem open_int_rows_at {t e : TypeId} {fs : Array Field} {fuel : Nat} {v : Value} {y : DataW H × List MemPlace} (ht : Try.prog.underlying t = some (.slice e)) (hs : Try.prog.underlying e = some (.struct fs)) (hone : oneCellFields Try.prog fs = true) (hty : ∀ (j : Nat) (f : Field), fs[j]? = some f → f.type = 3)
    (hC : Try.prog.cellsOf e = fs.size) (hf : DataW.trod enc Try.prog W 0 (fun _ => true) true fuel t [v] = some y) :
    ∃ (a : Option Addr) (len cap : Nat), v = .slice a len cap ∧ len ≤ cap ∧ cap ≤ 9223372036854775807 ∧
      (len = 0 ∨ ∃ a', a = some a' ∧ ∀ i, i < len → ∀ j, j < fs.size → ∃ z : Int, W.cell? (a'.add (i * fs.size + j)) = some (.int .i64 z) ∧ -9223372036854775808 ≤ z ∧ z ≤ 9223372036854775807) := by
  rcases open_slice ht hf with ⟨hc, _⟩ | ⟨a, len, cap, m, n, D, Pl, hc, _, hl, hm, hmm, _, hi⟩
  · simp at hc
    exact ⟨none, 0, 0, hc, Nat.le_refl _, by omega, .inl rfl⟩
  · simp at hc hmm
    unfold maxLen at hm
    refine ⟨some a, len, cap, hc, hl, by omega, .inr ⟨a, rfl, fun i hil j hj => ?_⟩⟩
    obtain ⟨cs', hcs, ht'⟩ := hi i (by omega)
    rw [hC] at hcs
    obtain ⟨_, hcl, hat⟩ := World.cells?_some hcs
    have hcell := hat j hj
    have hj' : j < cs'.length := by omega
    rw [List.getElem?_eq_getElem hj'] at hcell
    obtain ⟨z, ez, hz⟩ := int_fields hs hone hty hcl ht' cs'[j] (List.getElem_mem hj')
    exact ⟨z, by rw [← Go.Deep.add_add, hcell, ez], hz⟩
end
theorem rows_rights {W : World} {a : Option Addr} {len : Nat} (hc : len = 0 ∨ ∃ a', a = some a' ∧ ∀ i, i < len → ∀ j, j < 3 → ∃ z : Int, W.cell? (a'.add (i * 3 + j)) = some (.int .i64 z) ∧ -9223372036854775808 ≤ z ∧ z ≤ 9223372036854775807) :
    ∃ r : List Rgt, r.length = len ∧ (r.length ≤ 140737488355328 → RgtsAt W a r) := by
  rcases hc with rfl | ⟨⟨b, off, spot⟩, rfl, hc⟩
  · exact ⟨[], rfl, fun _ => ⟨by simp, .inl rfl⟩⟩
  · obtain ⟨r, h1, h2⟩ := pick_list (α := Rgt) len (fun i f => ∀ j, j < 3 → W.cell? ((⟨b, off, spot⟩ : Addr).add (i * 3 + j)) = some (.int .i64 (match j with | 0 => f.c | 1 => f.f | _ => f.t))) rgt0 (fun i hi => by
      obtain ⟨z0, e0, _⟩ := hc i hi 0 (by decide)
      obtain ⟨z1, e1, _⟩ := hc i hi 1 (by decide)
      obtain ⟨z2, e2, _⟩ := hc i hi 2 (by decide)
      refine ⟨⟨z0, z1, z2⟩, fun j hj => ?_⟩
      match j, hj with
      | 0, _ => exact e0
      | 1, _ => exact e1
      | 2, _ => exact e2)
    refine ⟨r, h1, fun hb => ⟨hb, ?_⟩⟩
    by_cases h0 : len = 0
    · left; exact List.eq_nil_of_length_eq_zero (by omega)
    · right
      have hspot : spot = none := by simpa [Addr.add] using World.cell?_spot (h2 0 (by omega) 0 (by omega))
      subst hspot
      refine ⟨b, off, rfl, fun i hi => ?_⟩
      have g0 := h2 i (by omega) 0 (by omega)
      have g1 := h2 i (by omega) 1 (by omega)
      have g2 := h2 i (by omega) 2 (by omega)
      rw [place_add] at g0 g1 g2
      refine ⟨by simpa [gAt] using g0, by rw [Nat.add_assoc]; exact g1, by rw [Nat.add_assoc]; exact g2⟩
set_option maxRecDepth 100000 in
theorem open_rights {H : Type} {enc : TypeId × Value → H} {W : World} {r : Reach} {b0 : Nat} {v : Value} {d : DataW H} {p : List MemPlace} (hv : Value.okWide Try.prog W r b0 56 v)
    (h : DataW.Trod enc Try.prog W 0 (fun _ => true) true 56 v d p) :
    ∃ (a : Option Addr) (l : List Rgt) (cap : Nat), v = .slice a l.length cap ∧ l.length ≤ 9223372036854775807 ∧ l.length ≤ cap ∧ (l.length ≤ 140737488355328 → RgtsAt W a l) := by
  obtain ⟨a, len, cap, rfl, hl, hm, hc⟩ := open_int_rows Try.underlying56 Try.underlying92 (by kernel_rfl) (ty_all (by kernel_rfl)) (by kernel_rfl) hv h
  obtain ⟨rs, h1, h2⟩ := rows_rights hc
  exact ⟨a, rs, cap, by rw [h1], by omega, by omega, h2⟩
end Go.Proofs.Ytkepjoociidkcaa
