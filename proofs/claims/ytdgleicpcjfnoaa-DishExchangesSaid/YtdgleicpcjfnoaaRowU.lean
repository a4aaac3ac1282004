/- A row of the call's own whose blocks lie below a bound; a row of items beside a row of rules, no two of their lists in one block. -/
import Derived.Test.YtdgleicpcjfnoaaCpB
import Derived.Laws.OwnMore
/- A write into a row of two-cell values whose lists are the call's own: into one of its lists, or into one of its cells. -/
set_option linter.unusedVariables false
namespace Go.Proofs.Ytdgleicpcjfnoaa
open Go.RowKit

theorem Diff.symm {x y : Value} (h : Diff x y) : Diff y x := fun p h1 h2 => h p h2 h1
theorem diff_at {cl : List Value} (h : cl.Pairwise Diff) {i j : Nat} {x y : Value} (hi : cl[i]? = some x) (hj : cl[j]? = some y) (hne : i ≠ j) : Diff x y := by
  obtain ⟨h1, e1⟩ := List.getElem?_eq_some_iff.1 hi
  obtain ⟨h2, e2⟩ := List.getElem?_eq_some_iff.1 hj
  rcases Nat.lt_or_gt_of_ne hne with hl | hl
  · have := List.pairwise_iff_getElem.1 h i j h1 h2 hl
    rw [e1, e2] at this; exact this
  · have := List.pairwise_iff_getElem.1 h j i h2 h1 hl
    rw [e1, e2] at this; exact this.symm
/-- Where the row begins. -/
theorem RowO.head {w : World} {base : Nat} {e : TypeId} {cs : List (List Int ⊕ Int)} {n : Nat} {v : Value} (h : RowO w base e cs n v) (hn : 0 < n) : ∃ G c, v = .slice (some ⟨G, 0, none⟩) n c ∧ base ≤ G ∧ G < w.heap.size ∧ n ≤ c := by
  obtain ⟨cl, h1, _⟩ := h
  rcases h1.2 with ⟨_, h0⟩ | ⟨g, c, cur, hv, hg, hh, hc, _⟩
  · omega
  · exact ⟨g, c, hv, hg, (Array.getElem?_eq_some_iff.1 hh).1, hc⟩
/-- One of its lists: its cells, and a write into it. -/
theorem RowO.list {w : World} {base : Nat} {e : TypeId} {cs : List (List Int ⊕ Int)} {n G c : Nat} (h : RowO w base e cs n (.slice (some ⟨G, 0, none⟩) n c)) (hne : 3 ≠ e) {j : Nat} {xs : List Int} (hj : cs[j]? = some (.inl xs)) :
    ∃ A d, w.cell? ⟨G, j, none⟩ = some (.slice A xs.length d) ∧ Own w base (.slice A xs.length d) xs ∧
      ∀ g, A = some ⟨g, 0, none⟩ → ∀ i u, RowO (w.setCell ⟨g, i, none⟩ (.int .i64 u)) base e (cs.set j (.inl (xs.set i u))) n (.slice (some ⟨G, 0, none⟩) n c) := by
  obtain ⟨cl, h1, h2, h3⟩ := h
  obtain ⟨x, hx, ho⟩ := h2.2 _ _ hj
  have ho' : Own w base x xs := ho
  obtain ⟨A, d, rfl⟩ : ∃ A d, x = .slice A xs.length d := by
    rcases ho'.2 with ⟨hv, hn⟩ | ⟨g, d, cur, hv, _⟩
    · exact ⟨none, 0, by rw [hv, hn]⟩
    · exact ⟨_, d, hv⟩
  refine ⟨A, d, row_cells h1 _ _ hx, ho', fun g hg i u => ?_⟩
  subst hg
  have hst := (World.ownsRow.stored (w := w) ho' i (.int .i64 u)).1
  have hrow : ∀ g', (Value.slice (some ⟨G, 0, none⟩) n c).ownBlock = some g' → (w.setCell ⟨g, i, none⟩ (.int .i64 u)).heap[g']? = w.heap[g']? := fun g' hg' =>
    heap_setCell_other w ⟨g, i, none⟩ g' _ (fun e2 => own_two ho' h1 hne g rfl (by rw [hg', e2]))
  refine ⟨cl, own_kept h1 hrow, ⟨by rw [List.length_set]; exact h2.1, fun k y hk => ?_⟩, h3⟩
  by_cases hkj : k = j
  · subst hkj
    rw [List.getElem?_set] at hk
    have hlt : k < cs.length := (List.getElem?_eq_some_iff.1 hj).1
    simp [hlt] at hk
    subst hk
    refine ⟨_, hx, ?_⟩
    show Own _ _ _ _
    unfold Own
    rw [List.length_set, List.map_set]
    exact hst
  · rw [List.getElem?_set_ne (fun e => hkj e.symm)] at hk
    obtain ⟨z, hz, hzo⟩ := h2.2 _ _ hk
    refine ⟨z, hz, hzo.kept (fun g' hg' => heap_setCell_other w ⟨g, i, none⟩ g' _ (fun e2 => ?_))⟩
    exact diff_at h3 hx hz (fun e3 => hkj e3.symm) g rfl (by rw [hg', e2])
theorem pairwise_set {cl : List Value} (h : cl.Pairwise Diff) {j : Nat} {x : Value} (hd : ∀ i y, cl[i]? = some y → i ≠ j → Diff y x) : (cl.set j x).Pairwise Diff := by
  rw [List.pairwise_iff_getElem] at h ⊢
  intro a b ha hb hab
  rw [List.length_set] at ha hb
  rw [List.getElem_set, List.getElem_set]
  split
  · rename_i e1
    split
    · omega
    · exact (hd b _ (List.getElem?_eq_getElem hb) (by omega)).symm
  · split
    · exact hd a _ (List.getElem?_eq_getElem ha) (by omega)
    · exact h a b ha hb hab
/-- One of its cells is overwritten by a number. -/
theorem RowO.putInt {w : World} {base : Nat} {e : TypeId} {cs : List (List Int ⊕ Int)} {n G c : Nat} (h : RowO w base e cs n (.slice (some ⟨G, 0, none⟩) n c)) (hne : 3 ≠ e) (j : Nat) (t : Int) :
    RowO (w.setCell ⟨G, j, none⟩ (.int .i64 t)) base e (cs.set j (.inr t)) n (.slice (some ⟨G, 0, none⟩) n c) := by
  obtain ⟨cl, h1, h2, h3⟩ := h
  have hst := (World.ownsRow.stored (w := w) h1 j (.int .i64 t)).1
  have hl := h2.1
  refine ⟨_, hst, ⟨by rw [List.length_set, List.length_set]; exact h2.1, fun k y hk => ?_⟩, pairwise_set h3 (fun i y _ _ => Diff.int_r _ _ _)⟩
  by_cases hkj : k = j
  · subst hkj
    have hlt : k < cs.length := by have := (List.getElem?_eq_some_iff.1 hk).1; simpa using this
    rw [List.getElem?_set_self hlt] at hk
    cases hk
    exact ⟨_, List.getElem?_set_self (by omega), rfl⟩
  · rw [List.getElem?_set_ne (fun e => hkj e.symm)] at hk ⊢
    obtain ⟨z, hz, hzo⟩ := h2.2 _ _ hk
    exact ⟨z, hz, hzo.kept (fun g' hg' => heap_setCell_other w ⟨G, j, none⟩ g' _ (fun e2 => hzo.row h1 hne g' hg' (by rw [e2]; rfl)))⟩
/-- One of its cells is overwritten by a new list. -/
theorem RowO.putNew {w0 w : World} {base m : Nat} {e : TypeId} {cs : List (List Int ⊕ Int)} {n G c : Nat} (h : RowO w0 base e cs n (.slice (some ⟨G, 0, none⟩) n c)) (hne : 3 ≠ e) (hb : Below w0.heap.size w0 w) (hm : w0.heap.size ≤ m) (hbm : base ≤ m) (j : Nat) {x : Value} {ys : List Int} (hx : Own w m x ys) :
    RowO (w.setCell ⟨G, j, none⟩ x) base e (cs.set j (.inl ys)) n (.slice (some ⟨G, 0, none⟩) n c) := by
  obtain ⟨cl, h1, h2, h3⟩ := h
  have h1w := own_below h1 hb
  have hst := (World.ownsRow.stored (w := w) h1w j x).1
  have hl := h2.1
  have h2w := h2.below hb
  have hG : G < w0.heap.size := (h1.lt G rfl).2
  refine ⟨_, hst, ⟨by rw [List.length_set, List.length_set]; exact h2.1, fun k y hk => ?_⟩, pairwise_set h3 (fun i y hy hij => ?_)⟩
  · by_cases hkj : k = j
    · subst hkj
      have hlt : k < cs.length := by have := (List.getElem?_eq_some_iff.1 hk).1; simpa using this
      rw [List.getElem?_set_self hlt] at hk
      cases hk
      refine ⟨_, List.getElem?_set_self (by omega), ?_⟩
      show Own _ _ _ _
      exact own_weak (own_kept hx (fun g' hg' => heap_setCell_other w ⟨G, k, none⟩ g' _ (fun e2 => by have := (Go.World.ownsRow.lt hx g' hg').1; rw [e2] at this; dsimp only at this; omega))) hbm
    · rw [List.getElem?_set_ne (fun e => hkj e.symm)] at hk ⊢
      obtain ⟨z, hz, hzo⟩ := h2w.2 _ _ hk
      exact ⟨z, hz, hzo.kept (fun g' hg' => heap_setCell_other w ⟨G, j, none⟩ g' _ (fun e2 => hzo.row h1w hne g' hg' (by rw [e2]; rfl)))⟩
  · obtain ⟨z, hzo⟩ := h2.cel (List.mem_of_getElem? hy)
    intro p hp hq
    have := (hzo.lt p hp).2
    have := (Go.World.ownsRow.lt hx p hq).1
    omega
end Go.Proofs.Ytdgleicpcjfnoaa
set_option linter.unusedVariables false
namespace Go.Proofs.Ytdgleicpcjfnoaa
open Go.RowKit

def RowU (w : World) (base hi : Nat) (e : TypeId) (cs : List (List Int ⊕ Int)) (n : Nat) (v : Value) : Prop :=
  ∃ cl : List Value, w.ownsRow base e 2 v n cl ∧ CsLike w base cl cs ∧ cl.Pairwise Diff ∧ (∀ q, v.ownBlock = some q → q < hi) ∧ ∀ x ∈ cl, ∀ q, x.ownBlock = some q → q < hi
section
variable {w w' : World} {base hi : Nat} {e : TypeId} {cs : List (List Int ⊕ Int)} {n : Nat} {v : Value}
theorem RowU.of (h : RowO w base e cs n v) : RowU w base w.heap.size e cs n v := by
  obtain ⟨cl, h1, h2, h3⟩ := h
  exact ⟨cl, h1, h2, h3, fun q hq => (h1.lt q hq).2, fun x hx q hq => by obtain ⟨y, hy⟩ := h2.cel hx; exact (hy.lt q hq).2⟩
theorem RowU.toO (h : RowU w base hi e cs n v) : RowO w base e cs n v := by
  obtain ⟨cl, h1, h2, h3, _⟩ := h
  exact ⟨cl, h1, h2, h3⟩
theorem RowU.below (h : RowU w base hi e cs n v) (hb : Below w.heap.size w w') : RowU w' base hi e cs n v := by
  obtain ⟨cl, h1, h2, h3, h4⟩ := h
  exact ⟨cl, own_below h1 hb, h2.below hb, h3, h4⟩
theorem RowU.setCell (h : RowU w base hi e cs n v) (p : Addr) (u : Value) (hp : p.block < base) : RowU (w.setCell p u) base hi e cs n v := by
  obtain ⟨cl, h1, h2, h3, h4⟩ := h
  refine ⟨cl, own_setCell h1 p hp u, h2.kept (fun x hx g hg => ?_), h3, h4⟩
  obtain ⟨y, hy⟩ := h2.cel hx
  have := (hy.lt g hg).1
  exact heap_setCell_other w p g u (by omega)
theorem RowU.form (h : RowU w base hi e cs n v) : ∃ A c, v = .slice A n c := by
  obtain ⟨cl, h1, _⟩ := h
  rcases h1.2 with ⟨hv, hn⟩ | ⟨g, c, cur, hv, _⟩
  · exact ⟨none, 0, by rw [hv, hn]⟩
  · exact ⟨_, c, hv⟩
end
theorem RowU.grown {wx w4 : World} {base hi b2 : Nat} {e e2 : TypeId} {cs : List (List Int ⊕ Int)} {n s m : Nat} {v u : Value} {xs : List Value} (h : RowU wx base hi e cs n v) (hr : wx.ownsRow b2 e2 s u m xs) (hne : e ≠ e2) (h3 : 3 ≠ e2) (hg : wx.grownBy w4 u.ownBlock) : RowU w4 base hi e cs n v := by
  obtain ⟨cl, h1, h2, h4, h5⟩ := h
  refine ⟨cl, own_kept h1 (fun g hg' => hg.block g (h1.lt g hg').2 (fun e => own_two h1 hr hne g hg' e.symm)), h2.kept (fun x hx g hgx => ?_), h4, h5⟩
  obtain ⟨y, hy⟩ := h2.cel hx
  exact hg.block g (hy.lt g hgx).2 (fun e => hy.row hr h3 g hgx e.symm)
/-- Items and rules of the call's own. -/
def BookO (w : World) (base : Nat) (ci cr : List (List Int ⊕ Int)) (n m : Nat) (v u : Value) : Prop :=
  ∃ cl dl : List Value, w.ownsRow base 76 2 v n cl ∧ w.ownsRow base 55 2 u m dl ∧ CsLike w base cl ci ∧ CsLike w base dl cr ∧ (cl ++ dl).Pairwise Diff
theorem BookO.of {w : World} {base hi : Nat} {ci cr : List (List Int ⊕ Int)} {n m : Nat} {v u : Value} (h : RowU w base hi 76 ci n v) (k : RowO w hi 55 cr m u) (hb : base ≤ hi) : BookO w base ci cr n m v u := by
  obtain ⟨cl, h1, h2, h3, h4, h5⟩ := h
  obtain ⟨dl, k1, k2, k3⟩ := k
  refine ⟨cl, dl, h1, own_weak k1 hb, h2, ⟨k2.1, fun j y hj => by obtain ⟨x, e1, e2⟩ := k2.2 j y hj; exact ⟨x, e1, e2.weak hb⟩⟩, List.pairwise_append.2 ⟨h3, k3, fun a ha b hb2 => ?_⟩⟩
  intro p hp hq
  obtain ⟨y, hy⟩ := k2.cel hb2
  have := (hy.lt p hq).1
  have := h5 a ha p hp
  omega
section
variable {w : World} {base : Nat} {ci cr : List (List Int ⊕ Int)} {n m : Nat} {v u : Value}
theorem BookO.items (h : BookO w base ci cr n m v u) : RowO w base 76 ci n v := by
  obtain ⟨cl, dl, h1, _, h3, _, h5⟩ := h
  exact ⟨cl, h1, h3, (List.pairwise_append.1 h5).1⟩
theorem BookO.rules (h : BookO w base ci cr n m v u) : RowO w base 55 cr m u := by
  obtain ⟨cl, dl, _, h2, _, h4, h5⟩ := h
  exact ⟨dl, h2, h4, (List.pairwise_append.1 h5).2.1⟩
theorem BookO.below {w' : World} (h : BookO w base ci cr n m v u) (hb : Below w.heap.size w w') : BookO w' base ci cr n m v u := by
  obtain ⟨cl, dl, h1, h2, h3, h4, h5⟩ := h
  exact ⟨cl, dl, own_below h1 hb, own_below h2 hb, h3.below hb, h4.below hb, h5⟩
theorem BookO.setCell (h : BookO w base ci cr n m v u) (p : Addr) (x : Value) (hp : p.block < base) : BookO (w.setCell p x) base ci cr n m v u := by
  obtain ⟨cl, dl, h1, h2, h3, h4, h5⟩ := h
  refine ⟨cl, dl, own_setCell h1 p hp x, own_setCell h2 p hp x, h3.kept (fun y hy g hg => ?_), h4.kept (fun y hy g hg => ?_), h5⟩
  · obtain ⟨z, hz⟩ := h3.cel hy
    have := (hz.lt g hg).1
    exact heap_setCell_other w p g x (by omega)
  · obtain ⟨z, hz⟩ := h4.cel hy
    have := (hz.lt g hg).1
    exact heap_setCell_other w p g x (by omega)
theorem BookO.weak {b' : Nat} (h : BookO w base ci cr n m v u) (hb : b' ≤ base) : BookO w b' ci cr n m v u := by
  obtain ⟨cl, dl, h1, h2, h3, h4, h5⟩ := h
  exact ⟨cl, dl, own_weak h1 hb, own_weak h2 hb, ⟨h3.1, fun j y hj => by obtain ⟨x, e1, e2⟩ := h3.2 j y hj; exact ⟨x, e1, e2.weak hb⟩⟩, ⟨h4.1, fun j y hj => by obtain ⟨x, e1, e2⟩ := h4.2 j y hj; exact ⟨x, e1, e2.weak hb⟩⟩, h5⟩
end
/-- A list of an item: its cells, and a write into it. -/
theorem BookO.list {w : World} {base : Nat} {ci cr : List (List Int ⊕ Int)} {n m G c : Nat} {u : Value} (h : BookO w base ci cr n m (.slice (some ⟨G, 0, none⟩) n c) u) {j : Nat} {xs : List Int} (hj : ci[j]? = some (.inl xs)) :
    ∃ A d, w.cell? ⟨G, j, none⟩ = some (.slice A xs.length d) ∧ Own w base (.slice A xs.length d) xs ∧
      ∀ g, A = some ⟨g, 0, none⟩ → ∀ i x, BookO (w.setCell ⟨g, i, none⟩ (.int .i64 x)) base (ci.set j (.inl (xs.set i x))) cr n m (.slice (some ⟨G, 0, none⟩) n c) u := by
  obtain ⟨cl, dl, h1, h2, h3, h4, h5⟩ := h
  obtain ⟨p1, p2, p3⟩ := List.pairwise_append.1 h5
  obtain ⟨x, hx, ho⟩ := h3.2 _ _ hj
  have ho' : Own w base x xs := ho
  obtain ⟨A, d, rfl⟩ : ∃ A d, x = .slice A xs.length d := by
    rcases ho'.2 with ⟨hv, hn⟩ | ⟨g, d, cur, hv, _⟩
    · exact ⟨none, 0, by rw [hv, hn]⟩
    · exact ⟨_, d, hv⟩
  refine ⟨A, d, row_cells h1 _ _ hx, ho', fun g hg i u2 => ?_⟩
  subst hg
  have hst := (World.ownsRow.stored (w := w) ho' i (.int .i64 u2)).1
  refine ⟨cl, dl, own_kept h1 (fun g' hg' => heap_setCell_other w ⟨g, i, none⟩ g' _ (fun e2 => own_two ho' h1 (by decide) g rfl (by rw [hg', e2]))), own_kept h2 (fun g' hg' => heap_setCell_other w ⟨g, i, none⟩ g' _ (fun e2 => own_two ho' h2 (by decide) g rfl (by rw [hg', e2]))), ⟨by rw [List.length_set]; exact h3.1, fun k y hk => ?_⟩, h4.kept (fun z hz g' hg' => heap_setCell_other w ⟨g, i, none⟩ g' _ (fun e2 => p3 _ (List.mem_of_getElem? hx) z hz g rfl (by rw [hg', e2]))), h5⟩
  by_cases hkj : k = j
  · subst hkj
    rw [List.getElem?_set] at hk
    have hlt : k < ci.length := (List.getElem?_eq_some_iff.1 hj).1
    simp [hlt] at hk
    subst hk
    refine ⟨_, hx, ?_⟩
    show Own _ _ _ _
    unfold Own
    rw [List.length_set, List.map_set]
    exact hst
  · rw [List.getElem?_set_ne (fun e => hkj e.symm)] at hk
    obtain ⟨z, hz, hzo⟩ := h3.2 _ _ hk
    refine ⟨z, hz, hzo.kept (fun g' hg' => heap_setCell_other w ⟨g, i, none⟩ g' _ (fun e2 => ?_))⟩
    exact diff_at p1 hx hz (fun e3 => hkj e3.symm) g rfl (by rw [hg', e2])
/-- A list of an item is another one now. -/
theorem BookO.putNew {w0 w : World} {base q : Nat} {ci cr : List (List Int ⊕ Int)} {n m G c : Nat} {u : Value} (h : BookO w0 base ci cr n m (.slice (some ⟨G, 0, none⟩) n c) u) (hb : Below w0.heap.size w0 w) (hm : w0.heap.size ≤ q) (hbm : base ≤ q) (j : Nat) {x : Value} {ys : List Int} (hx : Own w q x ys) :
    BookO (w.setCell ⟨G, j, none⟩ x) base (ci.set j (.inl ys)) cr n m (.slice (some ⟨G, 0, none⟩) n c) u := by
  obtain ⟨cl, h1, h2, h3⟩ := h.items.putNew (by decide) hb hm hbm j hx
  obtain ⟨cl0, dl, k1, k2, k3, k4, k5⟩ := h.below hb
  obtain ⟨cl9, dl9, m1, m2, m3, m4, m5⟩ := h
  obtain ⟨_, _, p3⟩ := List.pairwise_append.1 m5
  have hst := (World.ownsRow.stored (w := w) (own_below m1 hb) j x).1
  have e4 := m4.below hb
  have e2 := own_below m2 hb
  refine ⟨cl9.set j x, dl9, hst, own_kept e2 (fun g' hg' => heap_setCell_other w ⟨G, j, none⟩ g' _ (fun e => own_two (own_below m1 hb) e2 (by decide) G rfl (by rw [hg', e]))), ?_, e4.kept (fun z hz g' hg' => heap_setCell_other w ⟨G, j, none⟩ g' _ (fun e => ?_)), ?_⟩
  · refine ⟨by rw [List.length_set, List.length_set]; exact m3.1, fun k y hk => ?_⟩
    have hl := m3.1
    by_cases hkj : k = j
    · subst hkj
      have hlt : k < ci.length := by have := (List.getElem?_eq_some_iff.1 hk).1; simpa using this
      rw [List.getElem?_set_self hlt] at hk
      cases hk
      refine ⟨_, List.getElem?_set_self (by omega), ?_⟩
      show Own _ _ _ _
      have hG : G < w0.heap.size := (m1.lt G rfl).2
      exact own_weak (own_kept hx (fun g' hg' => heap_setCell_other w ⟨G, k, none⟩ g' _ (fun e2 => by have := (Go.World.ownsRow.lt hx g' hg').1; rw [e2] at this; dsimp only at this; omega))) hbm
    · rw [List.getElem?_set_ne (fun e => hkj e.symm)] at hk ⊢
      obtain ⟨z, hz, hzo⟩ := (m3.below hb).2 _ _ hk
      exact ⟨z, hz, hzo.kept (fun g' hg' => heap_setCell_other w ⟨G, j, none⟩ g' _ (fun e => hzo.row (own_below m1 hb) (by decide) g' hg' (by rw [e]; rfl)))⟩
  · obtain ⟨y, hy⟩ := e4.cel hz
    exact hy.row (own_below m1 hb) (by decide) g' hg' (by rw [e]; rfl)
  · obtain ⟨p1, p2, p4⟩ := List.pairwise_append.1 m5
    have hnew : ∀ z y, CelO w0 base z y → Diff z x := by
      intro z y hz p hp hq
      have := (hz.lt p hp).2
      have := (Go.World.ownsRow.lt hx p hq).1
      omega
    refine List.pairwise_append.2 ⟨pairwise_set p1 (fun i y hy _ => ?_), p2, fun a ha b hb2 => ?_⟩
    · obtain ⟨z, hz⟩ := m3.cel (List.mem_of_getElem? hy)
      exact hnew _ _ hz
    · rcases List.mem_or_eq_of_mem_set ha with ha | rfl
      · exact p4 a ha b hb2
      · obtain ⟨z, hz⟩ := m4.cel hb2
        exact (hnew _ _ hz).symm
theorem csI_set (l : List ItemL) : ∀ (j : Nat) (xs : List Int), j < l.length → (csI l).set (j * 2) (.inl xs) = csI (l.set j (xs, (l[j]?.getD ([], [])).2)) := by
  induction l with
  | nil => intro j xs hj; simp at hj
  | cons a t ih =>
    intro j xs hj
    cases j with
    | zero => rfl
    | succ j =>
      rw [show (j + 1) * 2 = j * 2 + 1 + 1 by omega]
      simp only [csI, List.set_cons_succ, List.getElem?_cons_succ]
      rw [ih j xs (by simpa using hj)]
end Go.Proofs.Ytdgleicpcjfnoaa
