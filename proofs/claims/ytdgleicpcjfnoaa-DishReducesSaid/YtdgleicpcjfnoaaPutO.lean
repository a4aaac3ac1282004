/- A write into a row of two-cell values whose lists are the call's own: into one of its lists, or into one of its cells. -/
import Derived.Test.YtdgleicpcjfnoaaCpB
import Derived.Laws.OwnMore
set_option linter.unusedVariables false
namespace Go.Proofs.Ytdgleicpcjfnoaa
open Go.RowKit

theorem Diff.symm {x y : Value} (h : Diff x y) : Diff y x := fun p h1 h2 => h p h2 h1
theorem diff_at {cl : List Value} (h : cl.Pairwise Diff) {i j : Nat} {x y : Value} (hi : cl[i]? = some x) (hj : cl[j]? = some y) (hne : i ≠ j) : Diff x y := by
  obtain ⟨h1, e1⟩ := List.getElem?_eq_some_iff.1 hi
  obtain ⟨h2, e2⟩ := List.getElem?_eq_some_iff.1 hj
  rcases Nat.lt_or_gt_of_ne hne with hl | hl
  · have := List.pairwise_iff_getElem.1 h i j h1 h2 hl
    rw [e1, e2] at this; exact this
  · have := List.pairwise_iff_getElem.1 h j i h2 h1 hl
    rw [e1, e2] at this; exact this.symm
/-- Where the row begins. -/
theorem RowO.head {w : World} {base : Nat} {e : TypeId} {cs : List (List Int ⊕ Int)} {n : Nat} {v : Value} (h : RowO w base e cs n v) (hn : 0 < n) : ∃ G c, v = .slice (some ⟨G, 0, none⟩) n c ∧ base ≤ G ∧ G < w.heap.size ∧ n ≤ c := by
  obtain ⟨cl, h1, _⟩ := h
  rcases h1.2 with ⟨_, h0⟩ | ⟨g, c, cur, hv, hg, hh, hc, _⟩
  · omega
  · exact ⟨g, c, hv, hg, (Array.getElem?_eq_some_iff.1 hh).1, hc⟩
/-- One of its lists: its cells, and a write into it. -/
theorem RowO.list {w : World} {base : Nat} {e : TypeId} {cs : List (List Int ⊕ Int)} {n G c : Nat} (h : RowO w base e cs n (.slice (some ⟨G, 0, none⟩) n c)) (hne : 3 ≠ e) {j : Nat} {xs : List Int} (hj : cs[j]? = some (.inl xs)) :
    ∃ A d, w.cell? ⟨G, j, none⟩ = some (.slice A xs.length d) ∧ Own w base (.slice A xs.length d) xs ∧
      ∀ g, A = some ⟨g, 0, none⟩ → ∀ i u, RowO (w.setCell ⟨g, i, none⟩ (.int .i64 u)) base e (cs.set j (.inl (xs.set i u))) n (.slice (some ⟨G, 0, none⟩) n c) := by
  obtain ⟨cl, h1, h2, h3⟩ := h
  obtain ⟨x, hx, ho⟩ := h2.2 _ _ hj
  have ho' : Own w base x xs := ho
  obtain ⟨A, d, rfl⟩ : ∃ A d, x = .slice A xs.length d := by
    rcases ho'.2 with ⟨hv, hn⟩ | ⟨g, d, cur, hv, _⟩
    · exact ⟨none, 0, by rw [hv, hn]⟩
    · exact ⟨_, d, hv⟩
  refine ⟨A, d, row_cells h1 _ _ hx, ho', fun g hg i u => ?_⟩
  subst hg
  have hst := (World.ownsRow.stored (w := w) ho' i (.int .i64 u)).1
  have hrow : ∀ g', (Value.slice (some ⟨G, 0, none⟩) n c).ownBlock = some g' → (w.setCell ⟨g, i, none⟩ (.int .i64 u)).heap[g']? = w.heap[g']? := fun g' hg' =>
    heap_setCell_other w ⟨g, i, none⟩ g' _ (fun e2 => own_two ho' h1 hne g rfl (by rw [hg', e2]))
  refine ⟨cl, own_kept h1 hrow, ⟨by rw [List.length_set]; exact h2.1, fun k y hk => ?_⟩, h3⟩
  by_cases hkj : k = j
  · subst hkj
    rw [List.getElem?_set] at hk
    have hlt : k < cs.length := (List.getElem?_eq_some_iff.1 hj).1
    simp [hlt] at hk
    subst hk
    refine ⟨_, hx, ?_⟩
    show Own _ _ _ _
    unfold Own
    rw [List.length_set, List.map_set]
    exact hst
  · rw [List.getElem?_set_ne (fun e => hkj e.symm)] at hk
    obtain ⟨z, hz, hzo⟩ := h2.2 _ _ hk
    refine ⟨z, hz, hzo.kept (fun g' hg' => heap_setCell_other w ⟨g, i, none⟩ g' _ (fun e2 => ?_))⟩
    exact diff_at h3 hx hz (fun e3 => hkj e3.symm) g rfl (by rw [hg', e2])
theorem pairwise_set {cl : List Value} (h : cl.Pairwise Diff) {j : Nat} {x : Value} (hd : ∀ i y, cl[i]? = some y → i ≠ j → Diff y x) : (cl.set j x).Pairwise Diff := by
  rw [List.pairwise_iff_getElem] at h ⊢
  intro a b ha hb hab
  rw [List.length_set] at ha hb
  rw [List.getElem_set, List.getElem_set]
  split
  · rename_i e1
    split
    · omega
    · exact (hd b _ (List.getElem?_eq_getElem hb) (by omega)).symm
  · split
    · exact hd a _ (List.getElem?_eq_getElem ha) (by omega)
    · exact h a b ha hb hab
/-- One of its cells is overwritten by a number. -/
theorem RowO.putInt {w : World} {base : Nat} {e : TypeId} {cs : List (List Int ⊕ Int)} {n G c : Nat} (h : RowO w base e cs n (.slice (some ⟨G, 0, none⟩) n c)) (hne : 3 ≠ e) (j : Nat) (t : Int) :
    RowO (w.setCell ⟨G, j, none⟩ (.int .i64 t)) base e (cs.set j (.inr t)) n (.slice (some ⟨G, 0, none⟩) n c) := by
  obtain ⟨cl, h1, h2, h3⟩ := h
  have hst := (World.ownsRow.stored (w := w) h1 j (.int .i64 t)).1
  have hl := h2.1
  refine ⟨_, hst, ⟨by rw [List.length_set, List.length_set]; exact h2.1, fun k y hk => ?_⟩, pairwise_set h3 (fun i y _ _ => Diff.int_r _ _ _)⟩
  by_cases hkj : k = j
  · subst hkj
    have hlt : k < cs.length := by have := (List.getElem?_eq_some_iff.1 hk).1; simpa using this
    rw [List.getElem?_set_self hlt] at hk
    cases hk
    exact ⟨_, List.getElem?_set_self (by omega), rfl⟩
  · rw [List.getElem?_set_ne (fun e => hkj e.symm)] at hk ⊢
    obtain ⟨z, hz, hzo⟩ := h2.2 _ _ hk
    exact ⟨z, hz, hzo.kept (fun g' hg' => heap_setCell_other w ⟨G, j, none⟩ g' _ (fun e2 => hzo.row h1 hne g' hg' (by rw [e2]; rfl)))⟩
/-- One of its cells is overwritten by a new list. -/
theorem RowO.putNew {w0 w : World} {base m : Nat} {e : TypeId} {cs : List (List Int ⊕ Int)} {n G c : Nat} (h : RowO w0 base e cs n (.slice (some ⟨G, 0, none⟩) n c)) (hne : 3 ≠ e) (hb : Below w0.heap.size w0 w) (hm : w0.heap.size ≤ m) (hbm : base ≤ m) (j : Nat) {x : Value} {ys : List Int} (hx : Own w m x ys) :
    RowO (w.setCell ⟨G, j, none⟩ x) base e (cs.set j (.inl ys)) n (.slice (some ⟨G, 0, none⟩) n c) := by
  obtain ⟨cl, h1, h2, h3⟩ := h
  have h1w := own_below h1 hb
  have hst := (World.ownsRow.stored (w := w) h1w j x).1
  have hl := h2.1
  have h2w := h2.below hb
  have hG : G < w0.heap.size := (h1.lt G rfl).2
  refine ⟨_, hst, ⟨by rw [List.length_set, List.length_set]; exact h2.1, fun k y hk => ?_⟩, pairwise_set h3 (fun i y hy hij => ?_)⟩
  · by_cases hkj : k = j
    · subst hkj
      have hlt : k < cs.length := by have := (List.getElem?_eq_some_iff.1 hk).1; simpa using this
      rw [List.getElem?_set_self hlt] at hk
      cases hk
      refine ⟨_, List.getElem?_set_self (by omega), ?_⟩
      show Own _ _ _ _
      exact own_weak (own_kept hx (fun g' hg' => heap_setCell_other w ⟨G, k, none⟩ g' _ (fun e2 => by have := (Go.World.ownsRow.lt hx g' hg').1; rw [e2] at this; dsimp only at this; omega))) hbm
    · rw [List.getElem?_set_ne (fun e => hkj e.symm)] at hk ⊢
      obtain ⟨z, hz, hzo⟩ := h2w.2 _ _ hk
      exact ⟨z, hz, hzo.kept (fun g' hg' => heap_setCell_other w ⟨G, j, none⟩ g' _ (fun e2 => hzo.row h1w hne g' hg' (by rw [e2]; rfl)))⟩
  · obtain ⟨z, hzo⟩ := h2.cel (List.mem_of_getElem? hy)
    intro p hp hq
    have := (hzo.lt p hp).2
    have := (Go.World.ownsRow.lt hx p hq).1
    omega
end Go.Proofs.Ytdgleicpcjfnoaa
