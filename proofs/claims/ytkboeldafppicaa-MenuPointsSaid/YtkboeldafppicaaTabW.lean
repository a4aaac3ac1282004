/- Tables of rows of whole numbers of the call's own. -/
import Derived.Test.YtkboeldafppicaaIBox
import Derived.Test.YtkboeldafppicaaLstI
set_option linter.unusedVariables false
set_option linter.unusedSimpArgs false
namespace Go.Proofs.Ytkboeldafppicaa
open Go.RowKit

def CBox (w : World) (t : TypeId) (B : Nat) (l : List Value) : Prop := w.heap[B]? = some (.cells l.toArray t (0, 0))
section
variable {w w' : World} {t : TypeId} {B : Nat} {l : List Value}
theorem CBox.cell (h : CBox w t B l) (i : Nat) (v : Value) (hi : l[i]? = some v) : w.cell? ⟨B, i, none⟩ = some v := by
  unfold CBox at h
  unfold World.cell?
  simp [h, hi]
theorem CBox.frozen (h : CBox w t B l) (i : Nat) : w.frozen? ⟨B, i, none⟩ = false := by
  unfold CBox at h
  unfold World.frozen?
  simp [h]
theorem CBox.lt (h : CBox w t B l) : B < w.heap.size := by
  unfold CBox at h
  exact (Array.getElem?_eq_some_iff.1 h).1
theorem CBox.keep (h : CBox w t B l) (hb : w'.heap[B]? = w.heap[B]?) : CBox w' t B l := by
  unfold CBox at h ⊢
  rw [hb]; exact h
theorem CBox.below (h : CBox w t B l) (hb : Below w.heap.size w w') : CBox w' t B l := h.keep (hb.block B h.lt)
theorem CBox.set (h : CBox w t B l) (k : Nat) (v : Value) : CBox (w.setCell ⟨B, k, none⟩ v) t B (l.set k v) := by
  unfold CBox at h ⊢
  rw [heap_setCell_same w B k _ _ _ h]
  simp
theorem CBox.other (h : CBox w t B l) (p : Addr) (v : Value) (hp : B ≠ p.block) : CBox (w.setCell p v) t B l := h.keep (heap_setCell_other w p B v hp)
theorem CBox.made (w : World) (t : TypeId) (n : Nat) (v : Value) : CBox (w.alloc (.cells (List.replicate n v).toArray t)) t w.heap.size (List.replicate n v) := by
  unfold CBox World.alloc
  simp
end
theorem make_rowsM (n : Nat) (hn : n ≤ 1000000) : ∀ w : World, (Instr.makeSlice 22 (.int .i64 (n : Int)) (.int .i64 (n : Int))).run Try.prog w = .ok (.slice (some ⟨w.heap.size, 0, none⟩) n n) (w.alloc (.cells (List.replicate n (Value.slice none 0 0)).toArray 26)) := by
  obtain ⟨i0, hi, hz0, hz1, hz2⟩ := info_parts row_info
  intro w
  have hr := run_make (P := Try.prog) w 22 26 i0 (.slice none 0 0) Try.underlying22 hi hz0 .i64 .i64 n n (by omega) (by omega) (by rw [hz2]; omega) (by omega)
  simp only [Int.toNat_natCast, hz1, Nat.mul_one] at hr
  have e : madeCells (Value.slice none 0 0).cells n = (List.replicate n (Value.slice none 0 0)).toArray := Array.ext' (by
    rw [show (Value.slice none 0 0).cells = #[Value.slice none 0 0] from rfl, toList_madeCells_one])
  rw [e] at hr
  exact hr
/-- The first k rows of a table that lies in the block gT; row i lies in the block G i. -/
structure TabW (w : World) (base gT n1 rn : Nat) (T : Nat → Nat → Int) (G : Nat → Nat) (k : Nat) : Prop where
  out : ∃ vals : List Value, vals.length = n1 ∧ CBox w 26 gT vals ∧ ∀ i, i < k → vals[i]? = some (.slice (some ⟨G i, 0, none⟩) rn rn)
  rows : ∀ i, i < k → IBox w (G i) ((List.range rn).map (T i))
  ne : ∀ i, i < k → base ≤ G i ∧ G i ≠ gT
  bT : base ≤ gT
section
variable {w w' : World} {base gT n1 rn k : Nat} {T : Nat → Nat → Int} {G : Nat → Nat}
theorem TabW.cell (h : TabW w base gT n1 rn T G k) (i : Nat) (hi : i < k) : w.cell? ⟨gT, i, none⟩ = some (.slice (some ⟨G i, 0, none⟩) rn rn) := by
  obtain ⟨vals, _, h2, h3⟩ := h.out
  exact h2.cell i _ (h3 i hi)
theorem TabW.get (h : TabW w base gT n1 rn T G k) (i s : Nat) (hi : i < k) (hs : s < rn) : w.cell? ⟨G i, s, none⟩ = some (.int .i64 (T i s)) := by
  have := (h.rows i hi).cell s (by simpa using hs)
  simpa [hs] using this
theorem TabW.ints (h : TabW w base gT n1 rn T G k) (i : Nat) (hi : i < k) (hr : rn ≤ 140737488355328) (hT : ∀ s, s < rn → I64 (T i s)) : Ints w (some ⟨G i, 0, none⟩) ((List.range rn).map (T i)) :=
  (h.rows i hi).ints (by simpa using hr) (fun x hx => by obtain ⟨s, hs, rfl⟩ := List.mem_map.1 hx; exact hT s (List.mem_range.1 hs))
theorem TabW.same (h : TabW w base gT n1 rn T G k) (hb : ∀ q, base ≤ q → q < w.heap.size → w'.heap[q]? = w.heap[q]?) : TabW w' base gT n1 rn T G k := by
  obtain ⟨vals, h1, h2, h3⟩ := h.out
  exact ⟨⟨vals, h1, h2.keep (hb _ h.bT h2.lt), h3⟩, fun i hi => (h.rows i hi).keep (hb _ (h.ne i hi).1 (h.rows i hi).lt), h.ne, h.bT⟩
theorem TabW.below (h : TabW w base gT n1 rn T G k) (hb : Below w.heap.size w w') : TabW w' base gT n1 rn T G k := h.same (fun q _ hq => hb.block q hq)
theorem TabW.weak {b : Nat} (h : TabW w base gT n1 rn T G k) (hb : b ≤ base) : TabW w b gT n1 rn T G k :=
  ⟨h.out, h.rows, fun i hi => ⟨by have := (h.ne i hi).1; omega, (h.ne i hi).2⟩, by have := h.bT; omega⟩
theorem TabW.step {wo wz : World} (h : TabW wo base gT n1 rn T G k) (hk : k < n1) (hbase : base ≤ wo.heap.size) (o : Obj) (hb : Below wo.heap.size ((wo.alloc o).setCell ⟨gT, k, none⟩ (.slice (some ⟨wo.heap.size, 0, none⟩) rn rn)) wz) (hrow : IBox wz wo.heap.size ((List.range rn).map (T k))) : TabW wz base gT n1 rn T (fun i => if i = k then wo.heap.size else G i) (k + 1) := by
  obtain ⟨vals, h1, h2, h3⟩ := h.out
  have hA : CBox ((wo.alloc o).setCell ⟨gT, k, none⟩ (.slice (some ⟨wo.heap.size, 0, none⟩) rn rn)) 26 gT (vals.set k (.slice (some ⟨wo.heap.size, 0, none⟩) rn rn)) := (h2.below ((Below.refl _ _).alloc (Nat.le_refl _) o)).set k _
  refine ⟨⟨vals.set k (.slice (some ⟨wo.heap.size, 0, none⟩) rn rn), by simpa using h1, hA.keep (hb.block gT h2.lt), fun i hi => ?_⟩, fun i hi => ?_, fun i hi => ?_, h.bT⟩
  · by_cases e : i = k
    · subst e; rw [List.getElem?_set_self (by omega)]; simp
    · rw [List.getElem?_set_ne (fun h => e h.symm), if_neg e]; exact h3 i (by omega)
  · by_cases e : i = k
    · subst e; simpa using hrow
    · have hr := h.rows i (by omega)
      have hl := hr.lt
      simp only [e, if_false]
      refine ((hr.below ((Below.refl _ _).alloc (Nat.le_refl _) o)).other ⟨gT, k, none⟩ _ (h.ne i (by omega)).2).keep (hb.block _ hl)
  · by_cases e : i = k
    · simp only [e, if_true]; exact ⟨hbase, by have := h2.lt; omega⟩
    · simp only [e, if_false]; exact h.ne i (by omega)
end
end Go.Proofs.Ytkboeldafppicaa
