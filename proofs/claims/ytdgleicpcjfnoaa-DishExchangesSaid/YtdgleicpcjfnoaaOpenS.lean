/- Structs of int only that came in: by value, and in slices. -/
import Derived.Test.YtdgleicpcjfnoaaOpenI
import Derived.Deep.Slices
import Derived.Deep.Fields
import Derived.ChangeSame
set_option linter.unusedVariables false
namespace Go.Proofs.Ytdgleicpcjfnoaa
open Go.ChangeShapes Go.WideShapes Go.ChangeAt Go.RowKit Go.Joins Go.Deep

theorem place_add (b off i : Nat) : (⟨b, off, none⟩ : Addr).add i = ⟨b, off + i, none⟩ := by
  unfold Addr.add; split
  · simp_all
  · rfl
section
variable {H : Type} {enc : TypeId × Value → H} {W : World}
/-- The fields of a struct of int only, out of its cells. -/
theorem int_fields {t : TypeId} {fs : Array Field} {fuel : Nat} {cs : List Value} {x : DataW H × List MemPlace} (hs : Try.prog.underlying t = some (.struct fs)) (hone : oneCellFields Try.prog fs = true) (hty : ∀ (j : Nat) (f : Field), fs[j]? = some f → f.type = 3)
    (hlen : cs.length = fs.size) (h : DataW.trod enc Try.prog W 0 (fun _ => true) true fuel t cs = some x) : ∀ v ∈ cs, ∃ z : Int, v = .int .i64 z ∧ -9223372036854775808 ≤ z ∧ z ≤ 9223372036854775807 := by
  intro v hv
  obtain ⟨j, hj, rfl⟩ := List.getElem_of_mem hv
  obtain ⟨ys, n, _, _, _, hyl, hf⟩ := DataW.trod_struct hs h
  have hjf : fs[j]? = some (fs[j]'(by omega)) := Array.getElem?_eq_getElem (by omega)
  obtain ⟨ho, hk⟩ := hone_of hone j _ hjf
  have h1 := hf j _ hjf
  rw [ho, hk, hty j _ hjf] at h1
  have e : (cs.drop j).take 1 = [cs[j]] := by rw [List.drop_eq_getElem_cons hj]; rfl
  have hy : ys[j]? = some (ys[j]'(by omega)) := List.getElem?_eq_getElem (by omega)
  rw [e, hy] at h1
  obtain ⟨z, e0, _, wz⟩ := DataW.trod_int Try.underlying3 h1
  simp at e0
  exact ⟨z, e0, wf_i64 wz⟩
set_option maxRecDepth 100000 in
/-- A struct of int only, by value. -/
theorem open_int_agg {t : TypeId} {fs : Array Field} {r : Reach} {b0 : Nat} {v : Value} {d : DataW H} {p : List MemPlace} (hs : Try.prog.underlying t = some (.struct fs)) (hone : oneCellFields Try.prog fs = true) (hty : ∀ (j : Nat) (f : Field), fs[j]? = some f → f.type = 3)
    (hC : Try.prog.cellsOf t = fs.size) (hv : Value.okWide Try.prog W r b0 t v) (h : DataW.Trod enc Try.prog W 0 (fun _ => true) true t v d p) :
    ∃ cs : Array Value, v = .agg cs ∧ cs.size = fs.size ∧ ∀ j, j < fs.size → ∃ z : Int, cs[j]? = some (.int .i64 z) ∧ -9223372036854775808 ≤ z ∧ z ≤ 9223372036854775807 := by
  obtain ⟨cs, rfl, hsz⟩ := okWide_struct hs hv
  obtain ⟨fuel, hf⟩ := h
  have hl : cs.toList.length = fs.size := by simp; omega
  refine ⟨cs, rfl, by omega, fun j hj => ?_⟩
  have hj' : j < cs.size := by omega
  obtain ⟨z, e, hz⟩ := int_fields (cs := cs.toList) hs hone hty hl hf cs[j] (by simp)
  exact ⟨z, by rw [Array.getElem?_eq_getElem hj', e], hz⟩
set_option maxRecDepth 100000 in
/-- A slice of structs of int only. -/
theorem open_int_rows {t e : TypeId} {fs : Array Field} {r : Reach} {b0 : Nat} {v : Value} {d : DataW H} {p : List MemPlace} (ht : Try.prog.underlying t = some (.slice e)) (hs : Try.prog.underlying e = some (.struct fs)) (hone : oneCellFields Try.prog fs = true) (hty : ∀ (j : Nat) (f : Field), fs[j]? = some f → f.type = 3)
    (hC : Try.prog.cellsOf e = fs.size) (hv : Value.okWide Try.prog W r b0 t v) (h : DataW.Trod enc Try.prog W 0 (fun _ => true) true t v d p) :
    ∃ (a : Option Addr) (len cap : Nat), v = .slice a len cap ∧ len ≤ cap ∧ cap ≤ 9223372036854775807 ∧
      (len = 0 ∨ ∃ a', a = some a' ∧ ∀ i, i < len → ∀ j, j < fs.size → ∃ z : Int, W.cell? (a'.add (i * fs.size + j)) = some (.int .i64 z) ∧ -9223372036854775808 ≤ z ∧ z ≤ 9223372036854775807) := by
  obtain ⟨a0, len0, cap0, rfl⟩ := okWide_slice ht hv
  obtain ⟨fuel, hf⟩ := h
  simp only [Value.cells] at hf
  rcases open_slice ht hf with ⟨hc, _⟩ | ⟨a, len, cap, m, n, D, Pl, hc, _, hl, hm, hmm, _, hi⟩
  · simp at hc
    obtain ⟨rfl, rfl, rfl⟩ := hc
    exact ⟨none, 0, 0, rfl, Nat.le_refl _, by omega, .inl rfl⟩
  · simp at hc hmm
    obtain ⟨rfl, rfl, rfl⟩ := hc
    unfold maxLen at hm
    refine ⟨some a, len0, cap0, rfl, hl, by omega, .inr ⟨a, rfl, fun i hil j hj => ?_⟩⟩
    obtain ⟨cs', hcs, ht'⟩ := hi i (by omega)
    rw [hC] at hcs
    obtain ⟨_, hcl, hat⟩ := World.cells?_some hcs
    have hcell := hat j hj
    have hj' : j < cs'.length := by omega
    rw [List.getElem?_eq_getElem hj'] at hcell
    obtain ⟨z, ez, hz⟩ := int_fields hs hone hty hcl ht' cs'[j] (List.getElem_mem hj')
    exact ⟨z, by rw [← Go.Deep.add_add, hcell, ez], hz⟩
end
end Go.Proofs.Ytdgleicpcjfnoaa
