/- The library's Delete and Clone at lists of int, on slices of the call's own: package van. -/
import Derived.Test.YtbffdpcogfmomaaRowsI
import Derived.Test.YtbffdpcogfmomaaKiCl
import Derived.Test.YtbffdpcogfmomaaVaOwn
import Derived.Shelf.Slices.Clone
import Derived.Shelf.Slices.Cells
set_option linter.unusedVariables false
namespace Go.Proofs.Ytbffdpcogfmomaa
open Go.RowKit

def delRen : Go.Shelf.Ren := ⟨fun | 23 => 68 | n => n, fun | 22 => 23 | n => n, fun | n => n⟩
theorem delLays : Go.Proofs.Lays2.n23 Try.prog delRen := {
  mixed := by kernel_rfl
  f23 := Try.func68.trans (congrArg some (by kernel_rfl))
  t0 := Try.underlying0
  a0 := Try.isAgg0
  z0 := Try.sizeOf0
  v0 := Try.zeroValue0
  t3 := Try.underlying3
  a3 := Try.isAgg3
  z3 := Try.sizeOf3
  v3 := Try.zeroValue3
  t4 := Try.underlying4
  a4 := Try.isAgg4
  z4 := Try.sizeOf4
  v4 := Try.zeroValue4
  t22 := Try.underlying23
  a22 := Try.isAgg23
  z22 := Try.sizeOf23
  v22 := Try.zeroValue23
  i3 := int_info }

/-- Cells that are written over. -/
def over : Array Value → Nat → List Value → Array Value
  | cur, _, [] => cur
  | cur, o, v :: r => over (cur.setIfInBounds o v) (o + 1) r
theorem over_size (vs : List Value) : ∀ (cur : Array Value) (o : Nat), (over cur o vs).size = cur.size := by
  induction vs with
  | nil => intro cur o; rfl
  | cons v r ih => intro cur o; rw [over, ih]; simp
theorem over_get (vs : List Value) : ∀ (cur : Array Value) (o j : Nat), (over cur o vs)[j]? = if o ≤ j ∧ j < o + vs.length ∧ j < cur.size then vs[j - o]? else cur[j]? := by
  induction vs with
  | nil => intro cur o j; rw [over, if_neg (by simp; omega)]
  | cons v r ih =>
    intro cur o j
    rw [over, ih, Array.getElem?_setIfInBounds]
    simp only [Array.size_setIfInBounds, List.length_cons]
    by_cases h1 : j = o
    · subst h1
      rw [if_neg (by omega), if_pos rfl]
      by_cases h2 : j < cur.size
      · rw [if_pos h2, if_pos ⟨Nat.le_refl _, by omega, h2⟩, Nat.sub_self]; rfl
      · rw [if_neg h2, if_neg (by omega), Array.getElem?_eq_none (by omega)]
    · by_cases h2 : o + 1 ≤ j ∧ j < o + 1 + r.length ∧ j < cur.size
      · rw [if_pos h2, if_pos (by omega), show j - o = (j - (o + 1)) + 1 by omega, List.getElem?_cons_succ]
      · rw [if_neg h2, if_neg (fun e => h1 e.symm), if_neg (by omega)]
theorem setCells_block (g : Nat) (e : TypeId) : ∀ (vs : List Value) (o : Nat) (w : World) (cur : Array Value), w.heap[g]? = some (.cells cur e (0, 0)) → (w.setCells g o vs).heap[g]? = some (.cells (over cur o vs) e (0, 0))
  | [], _, _, _, h => h
  | v :: r, o, w, cur, h => setCells_block g e r (o + 1) _ _ (heap_setCell_same w g o cur e v h)
theorem setCells_below {B g : Nat} {a : World} (hg : B ≤ g) : ∀ (vs : List Value) (o : Nat) (w : World), Below B a w → Below B a (w.setCells g o vs)
  | [], _, _, h => h
  | v :: r, o, w, h => setCells_below hg r (o + 1) _ (h.setCell (by exact hg) v)
theorem own_block {w : World} {g c base : Nat} {cur : Array Value} {xs : List Int} (hg : base ≤ g) (hh : w.heap[g]? = some (.cells cur 3 (0, 0))) (hl : xs.length ≤ c) (hm : c ≤ maxLen) (hs : cur.size = c) (hx : ∀ j, j < xs.length → cur[j]? = some (.int .i64 (xs[j]?.getD 0))) : Own w base (.slice (some ⟨g, 0, none⟩) xs.length c) xs := by
  refine ⟨by simp, .inr ⟨g, c, cur, rfl, hg, hh, hl, hm, by omega, ?_⟩⟩
  apply List.ext_getElem?
  intro j
  rw [Nat.mul_one]
  by_cases hj : j < xs.length
  · rw [List.getElem?_take_of_lt hj, Array.getElem?_toList, hx j hj, List.getElem?_map, List.getElem?_eq_getElem hj]; rfl
  · rw [List.getElem?_eq_none (by simp; omega), List.getElem?_eq_none (by simp; omega)]
theorem own_open {w : World} {base g c : Nat} {xs : List Int} (h : Own w base (.slice (some ⟨g, 0, none⟩) xs.length c) xs) : ∃ cur : Array Value, base ≤ g ∧ w.heap[g]? = some (.cells cur 3 (0, 0)) ∧ xs.length ≤ c ∧ c ≤ maxLen ∧ cur.size = c ∧ ∀ j, j < xs.length → cur[j]? = some (.int .i64 (xs[j]?.getD 0)) := by
  rcases h.2 with ⟨h', _⟩ | ⟨g', c', cur, h', hg, hh, hnc, hm, hs, ht⟩
  · simp at h'
  · simp only [Value.slice.injEq, Option.some.injEq, Addr.mk.injEq, and_true, true_and] at h'
    obtain ⟨rfl, rfl⟩ := h'
    refine ⟨cur, hg, hh, hnc, hm, by omega, fun j hj => ?_⟩
    have := congrArg (fun l => l[j]?) ht
    simp only [Nat.mul_one] at this
    rw [List.getElem?_take_of_lt hj, Array.getElem?_toList, List.getElem?_map, List.getElem?_eq_getElem hj] at this
    rw [this, List.getElem?_eq_getElem hj]; rfl
theorem cell_block {w : World} {g : Nat} {cur : Array Value} {e : TypeId} (h : w.heap[g]? = some (.cells cur e (0, 0))) (j : Nat) : w.cell? ⟨g, j, none⟩ = cur[j]? := by
  unfold World.cell?; rw [h]; simp
theorem frozen_block {w : World} {g : Nat} {cur : Array Value} {e : TypeId} (h : w.heap[g]? = some (.cells cur e (0, 0))) (j : Nat) : w.frozen? ⟨g, j, none⟩ = false := by
  unfold World.frozen?; rw [h]; simp
theorem shape_block {w : World} {g : Nat} {cur : Array Value} {e : TypeId} {fr : Nat × Nat} (h : w.heap[g]? = some (.cells cur e fr)) : w.shape? g = some (e, cur.size) := by
  unfold World.shape?; rw [h]
set_option maxRecDepth 100000 in
/-- slices.Delete of one number out of a slice of the call's own. -/
theorem delete_any (w : World) (base : Nat) (A : Option Addr) (c : Nat) (xs : List Int) (i : Nat) (hown : Own w base (.slice A xs.length c) xs) (hi : i < xs.length) (hl : xs.length ≤ 1000) :
  Calls Try.prog 68 #[.slice A xs.length c, .int .i64 i, .int .i64 ((i + 1 : Nat) : Int)] w (OwnV w base (xs.eraseIdx i)) := by
  cases A with
  | none =>
    rcases hown.2 with ⟨_, h0⟩ | ⟨g', c', cur, h', _⟩
    · omega
    · simp at h'
  | some ad =>
    obtain ⟨g, rfl⟩ : ∃ g, ad = ⟨g, 0, none⟩ := by
      rcases hown.2 with ⟨h', _⟩ | ⟨g', c', cur, h', _⟩
      · simp at h'
      · simp only [Value.slice.injEq, Option.some.injEq] at h'
        exact ⟨g', h'.1⟩
    obtain ⟨cur, hg, hh, hnc, hm, hs, hx⟩ := own_open hown
    have hlen : (xs.eraseIdx i).length = xs.length - 1 := by rw [List.length_eraseIdx, if_pos hi]
    refine (Go.Proofs.Any.slices_Delete_int_cells delLays g 0 xs.length c i (i + 1) xs w (Nat.le_refl _) hnc (by unfold maxLen at hm; omega) (by omega) (by omega) (fun j hj => by rw [Nat.zero_add, cell_block hh, hx j hj, List.getD_eq_getElem?_getD]) (fun j hj => frozen_block hh _)).mono ?_
    rintro e w' ⟨rfl, q, rfl⟩
    have hq : (w.drewN q).heap[g]? = some (.cells cur 3 (0, 0)) := hh
    have hown' := own_block (xs := xs.eraseIdx i) (c := c) (base := base) hg (setCells_block g 3 (((xs.take xs.length).take i ++ (xs.take xs.length).drop (i + 1) ++ List.replicate (i + 1 - i) 0).map (Value.int .i64)) 0 _ _ hq) (by omega) hm (by rw [over_size]; exact hs) (fun j hj => by
      rw [over_get, List.take_length]
      have hj2 : j < xs.length - 1 := by omega
      rw [if_pos (by simp; omega), Nat.sub_zero, List.getElem?_map, List.getElem?_append, List.getElem?_append]
      simp only [List.length_append, List.length_take, List.length_drop]
      rw [if_pos (by omega), List.getElem?_eraseIdx]
      by_cases h : j < i
      · rw [if_pos (by omega), List.getElem?_take_of_lt h, if_pos h, List.getElem?_eq_getElem (by omega)]; rfl
      · rw [if_neg (by omega), if_neg h, List.getElem?_drop, show i + 1 + (j - min i xs.length) = j + 1 by omega, List.getElem?_eq_getElem (by omega)]; rfl)
    rw [hlen] at hown'
    exact ⟨setCells_below hg _ _ _ (below_drewN (Below.refl _ _) _), _, c, by rw [hlen, show i + 1 - i = 1 by omega], by rw [hlen]; exact hown'⟩
theorem setCells_keep1 (g : Nat) : ∀ (vs : List Value) (o : Nat) (w0 w : World), Keep1 g w0 w → Keep1 g w0 (w.setCells g o vs) := by
  intro vs
  induction vs with
  | nil => intro o w0 w h; exact h
  | cons v r ih =>
    intro o w0 w h
    refine ih (o + 1) w0 _ ⟨?_, ?_, ?_, ?_, ?_⟩
    · have := ((Below.refl 0 w).setCell (p := ⟨g, o, none⟩) (Nat.zero_le _) v).os; exact this.trans h.os
    · have := ((Below.refl 0 w).setCell (p := ⟨g, o, none⟩) (Nat.zero_le _) v).tape; exact this.trans h.tape
    · have := ((Below.refl 0 w).setCell (p := ⟨g, o, none⟩) (Nat.zero_le _) v).output; exact this.trans h.output
    · have := ((Below.refl 0 w).setCell (p := ⟨g, o, none⟩) (Nat.zero_le _) v).size; exact Nat.le_trans h.size this
    · intro k hk hg
      rw [heap_setCell_other w ⟨g, o, none⟩ k v (by show k ≠ g; exact hg)]
      exact h.block k hk hg
/-- slices.Delete, and what it keeps. -/
theorem vDelete_any (w : World) (base g c : Nat) (xs : List Int) (i : Nat) (hown : Own w base (.slice (some ⟨g, 0, none⟩) xs.length c) xs) (hi : i < xs.length) (hl : xs.length ≤ 1000) :
  Calls Try.prog 68 #[.slice (some ⟨g, 0, none⟩) xs.length c, .int .i64 i, .int .i64 ((i : Int) + 1)] w (fun en w' => Keep1 g w w' ∧ en = .returned (.slice (some ⟨g, 0, none⟩) (xs.eraseIdx i).length c) ∧ Own w' base (.slice (some ⟨g, 0, none⟩) (xs.eraseIdx i).length c) (xs.eraseIdx i)) := by
  rw [show ((i : Int) + 1) = ((i + 1 : Nat) : Int) by omega]
  obtain ⟨cur, hg, hh, hnc, hm, hs, hx⟩ := own_open hown
  have hlen : (xs.eraseIdx i).length = xs.length - 1 := by rw [List.length_eraseIdx, if_pos hi]
  refine (Go.Proofs.Any.slices_Delete_int_cells delLays g 0 xs.length c i (i + 1) xs w (Nat.le_refl _) hnc (by unfold maxLen at hm; omega) (by omega) (by omega) (fun j hj => by rw [Nat.zero_add, cell_block hh, hx j hj, List.getD_eq_getElem?_getD]) (fun j hj => frozen_block hh _)).mono ?_
  rintro e w' ⟨rfl, q, rfl⟩
  have hq : (w.drewN q).heap[g]? = some (.cells cur 3 (0, 0)) := hh
  have hown' := own_block (xs := xs.eraseIdx i) (c := c) (base := base) hg (setCells_block g 3 (((xs.take xs.length).take i ++ (xs.take xs.length).drop (i + 1) ++ List.replicate (i + 1 - i) 0).map (Value.int .i64)) 0 _ _ hq) (by omega) hm (by rw [over_size]; exact hs) (fun j hj => by
    rw [over_get, List.take_length]
    have hj2 : j < xs.length - 1 := by omega
    rw [if_pos (by simp; omega), Nat.sub_zero, List.getElem?_map, List.getElem?_append, List.getElem?_append]
    simp only [List.length_append, List.length_take, List.length_drop]
    rw [if_pos (by omega), List.getElem?_eraseIdx]
    by_cases h : j < i
    · rw [if_pos (by omega), List.getElem?_take_of_lt h, if_pos h, List.getElem?_eq_getElem (by omega)]; rfl
    · rw [if_neg (by omega), if_neg h, List.getElem?_drop, show i + 1 + (j - min i xs.length) = j + 1 by omega, List.getElem?_eq_getElem (by omega)]; rfl)
  refine ⟨setCells_keep1 g _ _ _ _ ⟨rfl, rfl, rfl, Nat.le_refl _, fun _ _ _ => rfl⟩, ?_, hown'⟩
  rw [hlen, show i + 1 - i = 1 by omega]
end Go.Proofs.Ytbffdpcogfmomaa
