/- The smallest tree: package van. -/
import Derived.Test.YtbffdpcogfmomaaVaC
import Derived.Test.YtbffdpcogfmomaaVaDel
set_option linter.unusedVariables false
namespace Go.Proofs.Ytbffdpcogfmomaa
open Go.RowKit

/-- The places from f on. -/
def restK (f k : Nat) : List Int := (List.range k).map fun (i : Nat) => (i : Int) + f + 1
def plL (f n : Nat) : List Int := (f : Int) :: restK f (n - f - 1)
theorem restK_len (f k : Nat) : (restK f k).length = k := by simp [restK]
theorem restK_succ (f k : Nat) : restK f (k + 1) = restK f k ++ [((f + 1 + k : Nat) : Int)] := by
  simp only [restK, List.range_succ, List.map_append, List.map_cons, List.map_nil]
  congr 2
  omega
theorem restK_mem {f k : Nat} {x : Int} (h : x ∈ restK f k) : (f : Int) < x ∧ x < (f : Int) + k + 1 := by
  simp only [restK, List.mem_map, List.mem_range] at h
  obtain ⟨a, h, rfl⟩ := h; omega
theorem plL_mem {f n : Nat} (hf : f < n) {x : Int} (h : x ∈ plL f n) : (f : Int) ≤ x ∧ x < n := by
  rcases List.mem_cons.1 h with rfl | h
  · omega
  · have := restK_mem h; omega
theorem plL_one (n : Nat) (h : 2 ≤ n) : plL 1 n = stopsL n := by
  obtain ⟨m, rfl⟩ : ∃ m, n = m + 2 := ⟨n - 2, by omega⟩
  simp only [plL, restK, stopsL, show m + 2 - 1 = m + 1 by omega, List.range_succ_eq_map, List.map_cons, List.map_map]
  simp
theorem plL_zero (n : Nat) : plL 0 n = (0 : Int) :: stopsL n := by
  simp [plL, restK, stopsL]
theorem plL_nodup (f n : Nat) : (plL f n).Nodup := by
  unfold plL
  rw [List.nodup_cons]
  refine ⟨fun h => by have := restK_mem h; omega, ?_⟩
  unfold List.Nodup
  rw [List.pairwise_iff_getElem]
  intro i j hi hj hij
  simp [restK]
  omega
theorem plL_len (f n : Nat) (h : f < n) : (plL f n).length = n - f := by simp [plL, restK_len]; omega
/-- The state of the choice. -/
structure TrS (W0 : World) (t : Tbl) (n f D : Nat) (w : World) (S R ds : List Int) (m : Int) (vC vL : Value) : Prop where
  below : Below D W0 w
  deg : w.heap[D]? = some (.cells (cellsV ds) 3 (0, 0))
  con : Own w (D + 1) vC S
  lef : Own w (D + 1) vL R
  grow : Grow t (plL f n) f S R m
  dl : ds.length = n
  db : ∀ x ∈ ds, 0 ≤ x ∧ x ≤ 2 * ((S.length : Int) - 1)
  mb : -3000 * (S.length : Int) ≤ m ∧ m ≤ 3000 * (S.length : Int)
theorem mem_set {l : List Int} {i : Nat} {x y : Int} (h : y ∈ l.set i x) : y = x ∨ y ∈ l := by
  rcases List.mem_or_eq_of_mem_set h with h | h
  · exact .inr h
  · exact .inl h
section
variable {W0 : World} {t : Tbl} {n f D : Nat}
theorem TrS.keep {w w' : World} {S R ds : List Int} {m : Int} {vC vL : Value} (h : TrS W0 t n f D w S R ds m vC vL) (hb : Below w.heap.size w w') : TrS W0 t n f D w' S R ds m vC vL :=
  ⟨h.below.trans (hb.mono (Nat.le_of_lt (lt_block h.deg))), by rw [hb.block _ (lt_block h.deg)]; exact h.deg, h.con.below hb, h.lef.below hb, h.grow, h.dl, h.db, h.mb⟩
theorem TrS.inV (hf : f < n) {w : World} {S R ds : List Int} {m : Int} {vC vL : Value} (h : TrS W0 t n f D w S R ds m vC vL) : (∀ x ∈ S, (f : Int) ≤ x ∧ x < n) ∧ (∀ x ∈ R, (f : Int) ≤ x ∧ x < n) ∧ S.length + R.length = n - f ∧ 0 < S.length ∧ ∀ x ∈ S, ∀ y ∈ R, x ≠ y := by
  have hp := h.grow.all
  refine ⟨fun x hx => plL_mem hf (hp.mem_iff.2 (by simp [hx])), fun x hx => plL_mem hf (hp.mem_iff.2 (by simp [hx])), ?_, List.length_pos_of_mem h.grow.rin, fun x hx y hy e => ?_⟩
  · have := hp.length_eq
    rw [plL_len f n hf, List.length_append] at this
    omega
  · have := hp.nodup_iff.1 (plL_nodup f n)
    exact (List.nodup_append.1 this).2.2 x hx y hy e
theorem TrS.apart (hf : f < n) {w : World} {S R ds : List Int} {m : Int} {g1 g2 n1 n2 c1 c2 : Nat} (h : TrS W0 t n f D w S R ds m (.slice (some ⟨g1, 0, none⟩) n1 c1) (.slice (some ⟨g2, 0, none⟩) n2 c2)) (h0 : 0 < R.length) : g1 ≠ g2 := by
  obtain ⟨_, _, _, hS, hne⟩ := h.inV hf
  have hc := h.con
  have hl := h.lef
  cases S with
  | nil => simp at hS
  | cons x xs =>
    cases R with
    | nil => simp at h0
    | cons y ys => exact own_apart hc hl (hne x (by simp) y (by simp))
end
/-- Two marks of degrees. -/
def incD (ds : List Int) (i : Nat) : List Int := ds.set i (ds[i]?.getD 0 + 1)
theorem incD_bd {ds : List Int} {i : Nat} {b : Int} (hi : i < ds.length) (h : ∀ x ∈ ds, 0 ≤ x ∧ x ≤ b) : ∀ x ∈ incD ds i, 0 ≤ x ∧ x ≤ b + 1 := by
  intro x hx
  rcases mem_set hx with rfl | hx
  · have : ds[i]?.getD 0 ∈ ds := by simp [hi]
    have := h _ this; omega
  · have := h x hx; omega
theorem incD_len (ds : List Int) (i : Nat) : (incD ds i).length = ds.length := by simp [incD]
theorem eraseIdx_cons : ∀ (R : List Int) (b : Nat), b < R.length → (vAt R b :: R.eraseIdx b).Perm R := by
  intro R
  induction R with
  | nil => intro b h; simp at h
  | cons x r ih =>
    intro b h
    cases b with
    | zero => simp [vAt]
    | succ b =>
      have h1 := ih b (by simpa using h)
      rw [show vAt (x :: r) (b + 1) = vAt r b by simp [vAt], List.eraseIdx_cons_succ]
      exact (List.Perm.swap _ _ _).trans (h1.cons x)
theorem erase_perm (R : List Int) (b : Nat) (h : b < R.length) : (R.eraseIdx b).Perm (R.erase (vAt R b)) := by
  have h2 : R.Perm (vAt R b :: R.erase (vAt R b)) := List.perm_cons_erase (vAt_mem h)
  exact ((eraseIdx_cons R b h).trans h2).cons_inv
section
variable {W0 : World} {t : Tbl} {n f D : Nat}
/-- What lies in a block of its own stays when another block is written. -/
theorem own_left {w w5 w6 : World} {base g gc D c : Nat} {k : Nat} {o : Obj} {R : List Int} (h : Own w base (.slice (some ⟨g, 0, none⟩) k c) R) (hk5 : Keep1 D w w5) (h1 : g ≠ D) (hg : (w5.alloc o).grownBy w6 (some gc)) (h2 : g ≠ gc) : Own w6 base (.slice (some ⟨g, 0, none⟩) k c) R :=
  own_keep1 ((own_keep1 h hk5 h1).below ((Below.refl _ _).alloc (Nat.le_refl _) o)) (Keep1.of_grown hg) h2
theorem TrS.next (hf : f < n) (hs : Sq t n) {w w5 w6 w7 : World} {S R ds ds' : List Int} {m x : Int} {gc gl cc cl bb : Nat} {v' : Value} {o : Obj} (h : TrS W0 t n f D w S R ds m (.slice (some ⟨gc, 0, none⟩) S.length cc) (.slice (some ⟨gl, 0, none⟩) R.length cl))
    (hgc : D + 1 ≤ gc) (hgl : D + 1 ≤ gl)
    (hk5 : Keep1 D w w5) (hd5 : w5.heap[D]? = some (.cells (cellsV ds') 3 (0, 0))) (hdl : ds'.length = n) (hdb : ∀ x ∈ ds', 0 ≤ x ∧ x ≤ 2 * ((S.length : Int) - 1) + 2)
    (hg : (w5.alloc o).grownBy w6 (some gc)) (ho : Own w6 (D + 1) v' (S ++ [vAt R bb]))
    (hk7 : Keep1 gl w6 w7) (ho7 : Own w7 (D + 1) (.slice (some ⟨gl, 0, none⟩) (R.eraseIdx bb).length cl) (R.eraseIdx bb))
    (hx : x ∈ S) (hb : bb < R.length) (hmin : ∀ a ∈ S, ∀ y ∈ R, tA t x (vAt R bb) ≤ tA t a y) :
    TrS W0 t n f D w7 (S ++ [vAt R bb]) (R.eraseIdx bb) ds' (m + tA t x (vAt R bb)) v' (.slice (some ⟨gl, 0, none⟩) (R.eraseIdx bb).length cl) := by
  obtain ⟨i1, i2, i3, i4, i5⟩ := h.inV hf
  have hap := h.apart hf (by omega)
  have hD5 : D < w5.heap.size := lt_block hd5
  have hD6 : w6.heap[D]? = w5.heap[D]? := by
    rw [hg.block D (by simp; omega) (fun e => by have := Option.some.inj e; omega), ((Below.refl _ _).alloc (Nat.le_refl _) o).block D hD5]
  have hD7 : w7.heap[D]? = w6.heap[D]? := hk7.block D (by have := hg.size; simp at this; omega) (by omega)
  have hb5 := hk5.below (base := D) (Nat.le_refl _) (Nat.le_of_lt (lt_block h.deg))
  have hb6 := (((Below.refl D w5).alloc (by omega) o)).trans ((Keep1.of_grown hg).below (base := D) (by omega) (by simp; omega))
  have hb7 := hk7.below (base := D) (by omega) (by have := hg.size; simp at this; omega)
  have hy := vAt_mem hb
  have hw := hs.bdI x (vAt R bb) (by have := i1 x hx; omega) (by have := i2 _ hy; omega)
  refine ⟨((h.below.trans hb5).trans hb6).trans hb7, by rw [hD7, hD6]; exact hd5, ?_, ho7, ?_, hdl, ?_, ?_⟩
  · -- the list of the connected lies in another block than what is left
    have ho' := ho
    obtain ⟨g', c', cur, rfl, _, _, _⟩ := own_some ho (by simp)
    cases S with
    | nil => simp at i4
    | cons s ss =>
      have hl6 : Own w6 (D + 1) (.slice (some ⟨gl, 0, none⟩) R.length cl) R := own_left h.lef hk5 (by omega) hg (Ne.symm hap)
      cases R with
      | nil => simp at hb
      | cons r rs => exact own_keep1 ho hk7 (own_apart ho' hl6 (i5 s (by simp) r (by simp)))
  · refine h.grow.step ?_ (plL_nodup f n) hx hy hmin (List.perm_append_singleton _ _) (erase_perm R bb hb)
    intro a ha b hb'
    have h1 := plL_mem hf ha
    have h2 := plL_mem hf hb'
    exact hs.symI a b (by omega) (by omega)
  · intro z hz
    have := hdb z hz
    simp only [List.length_append, List.length_singleton]
    omega
  · have := h.mb
    simp only [List.length_append, List.length_singleton]
    omega
end
end Go.Proofs.Ytbffdpcogfmomaa
