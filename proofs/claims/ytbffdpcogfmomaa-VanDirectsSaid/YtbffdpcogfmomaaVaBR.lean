/- The document's bound: what it does to its copy of the ways: chapter 8. -/
import Derived.Test.YtbffdpcogfmomaaVaCp
import Derived.Test.YtbffdpcogfmomaaVaGrW
set_option linter.unusedVariables false
namespace Go.Proofs.Ytbffdpcogfmomaa
open Go.RowKit

theorem own_storeW {w : World} {base g n c : Nat} {xs : List Int} (h : Own w base (.slice (some ⟨g, 0, none⟩) n c) xs) (hn : n = xs.length) (i : Nat) (x : Int) : Own (w.setCell ⟨g, i, none⟩ (.int .i64 x)) base (.slice (some ⟨g, 0, none⟩) n c) (xs.set i x) := by
  subst hn
  have := (World.ownsRow.stored h i (.int .i64 x)).1
  unfold Own
  rw [List.length_set, List.map_set]
  exact this
theorem WayT.set {w : World} {base n : Nat} {v : Value} {G C : Nat → Nat} {R : Nat → List Int} {K : Nat} (h : WayT w base n v G C R K) (hn : 0 < n) (i k : Nat) (hi : i < K) (x : Int) :
    WayT (w.setCell ⟨G i, k, none⟩ (.int .i64 x)) base n v G C (fun a => if a = i then (R i).set k x else R a) K := by
  obtain ⟨vals, h1, h2⟩ := h.out
  obtain ⟨hg, cur, hh⟩ := h.lt hn i hi
  have hk1 : Keep1 (G i) w (w.setCell ⟨G i, k, none⟩ (.int .i64 x)) := setCell_keep1 ⟨rfl, rfl, rfl, Nat.le_refl _, fun _ _ _ => rfl⟩ _ _
  refine ⟨⟨vals, ?_, h2⟩, fun a ha => ?_, fun a ha => ?_, h.inj⟩
  · obtain ⟨e1, e2⟩ := h1
    refine ⟨e1, ?_⟩
    rcases e2 with e2 | ⟨g', cap, cur', hv, hg', hh', r⟩
    · exact .inl e2
    · refine .inr ⟨g', cap, cur', hv, hg', ?_, r⟩
      rw [hk1.block g' (lt_block hh') (fun e => by subst e; rw [hh] at hh'; simp at hh')]
      exact hh'
  · by_cases e : a = i
    · subst e
      rw [if_pos rfl]
      exact own_storeW (h.rows a ha) (h.len a ha).symm k x
    · rw [if_neg e]
      exact own_keep1 (h.rows a ha) hk1 (fun e2 => e (h.inj a i ha hi e2))
  · by_cases e : a = i
    · rw [if_pos e, List.length_set]; exact h.len i hi
    · rw [if_neg e]; exact h.len a ha
theorem WayT.cell {w : World} {base n : Nat} {v : Value} {G C : Nat → Nat} {R : Nat → List Int} {K : Nat} (h : WayT w base n v G C R K) (i k : Nat) (hi : i < K) (hk : k < n) : w.cell? ⟨G i, k, none⟩ = some (.int .i64 (vAt (R i) k)) ∧ w.frozen? ⟨G i, k, none⟩ = false := by
  have ha := h.rows i hi
  have hl := h.len i hi
  have ha' : w.ownsRow base 3 1 (.slice (some ⟨G i, 0, none⟩) n (C i)) n ((R i).map (Value.int .i64)) := by unfold Own at ha; rw [hl] at ha; exact ha
  refine ⟨?_, World.ownsRow.frozenAt ha' k⟩
  rw [World.ownsRow.cellAt ha' k (by omega), List.getElem?_map]
  simp [vAt, show k < (R i).length by omega]
theorem WayT.outer {w : World} {base n d : Nat} {B : Option Addr} {G C : Nat → Nat} {R : Nat → List Int} (h : WayT w base n (.slice B n d) G C R n) (hn : 0 < n) : ∃ ob, B = some ⟨ob, 0, none⟩ ∧ ∀ i, i < n → w.cell? ⟨ob, i, none⟩ = some (.slice (some ⟨G i, 0, none⟩) n (C i)) := by
  obtain ⟨vals, h1, h2⟩ := h.out
  have h1' := h1
  rcases h1.2 with ⟨hv, h0⟩ | ⟨g, c, cur, hv, _⟩
  · omega
  · simp only [Value.slice.injEq, true_and] at hv
    obtain ⟨rfl, rfl⟩ := hv
    exact ⟨g, rfl, fun i hi => row_cell h1' i _ (h2 i hi)⟩
theorem WayT.tab {w : World} {base n d : Nat} {B : Option Addr} {G C : Nat → Nat} {R : Nat → List Int} {c : Tbl} (h : WayT w base n (.slice B n d) G C R n) (hs : Sq c n) (hR : ∀ i, i < n → R i = tR c i) (hn : 0 < n) : TabAt w B c := by
  obtain ⟨ob, rfl, ho⟩ := h.outer hn
  have hl := hs.len
  have hn7 := hs.le
  refine ⟨by omega, .inr ⟨ob, 0, rfl, fun i hi => ?_⟩⟩
  have hi' : i < n := by omega
  have hrl := hs.rows i hi'
  refine ⟨_, C i, by rw [Nat.zero_add, hrl]; exact ho i hi', ?_⟩
  have ha := h.rows i hi'
  rw [hR i hi'] at ha
  refine own_intsG (base := base) (c := C i) (by rw [hrl]; exact ha) (by omega) (fun x hx => ?_)
  obtain ⟨j, hj, rfl⟩ := mem_vAt hx
  have := hs.bd i j hi' (by omega)
  rw [show vAt (tR c i) j = tA c i j from rfl]
  omega
/-- Row a, of which the first m are counted. -/
def rowU (t : Tbl) (p : List Int) (n a m : Nat) : List Int := (List.range n).map fun (b : Nat) => tA t a b + if b < m then vAt p a + vAt p b else 0
theorem rowU_zero {t : Tbl} {p : List Int} {n a : Nat} (h : (tR t a).length = n) : rowU t p n a 0 = tR t a := by
  refine List.ext_getElem (by simp [rowU, h]) fun i h1 h2 => ?_
  simp [rowU, tA_nat, h2]
theorem rowU_at (t : Tbl) (p : List Int) (n a m k : Nat) (h : k < n) : vAt (rowU t p n a m) k = tA t a k + if k < m then vAt p a + vAt p k else 0 := by
  simp [vAt, rowU, List.getElem?_range h]
theorem rowU_len (t : Tbl) (p : List Int) (n a m : Nat) : (rowU t p n a m).length = n := by simp [rowU]
theorem rowU_set (t : Tbl) (p : List Int) (n a k : Nat) (h : k < n) : (rowU t p n a k).set k (tA t a k + (vAt p a + vAt p k)) = rowU t p n a (k + 1) := by
  refine vAt_ext (by simp [rowU]) fun j hj => ?_
  have hj' : j < n := by simpa [rowU] using hj
  rw [vAt_set, rowU_at _ _ _ _ _ _ hj', rowU_at _ _ _ _ _ _ hj', rowU_len]
  by_cases e : j = k
  · subst e; simp [h]
  · rw [if_neg (by omega)]
    by_cases e2 : j < k
    · rw [if_pos e2, if_pos (by omega)]
    · rw [if_neg e2, if_neg (by omega)]
theorem rowU_all {t : Tbl} {p : List Int} {n a : Nat} (ht : t.length = n) (ha : a < n) (hr : (tR t a).length = n) : rowU t p n a n = tR (cntT t p) a := by
  rw [cntT_row t p a (by omega), hr]
  refine vAt_ext (by simp [rowU]) fun j hj => ?_
  have hj' : j < n := by simpa [rowU] using hj
  rw [rowU_at _ _ _ _ _ _ hj', if_pos hj']
  simp [vAt, List.getElem?_range hj']
  omega
def RowsU (t : Tbl) (p : List Int) (n i k : Nat) : Nat → List Int := fun a => if a < i then rowU t p n a n else if a = i then rowU t p n a k else rowU t p n a 0
theorem RowsU.set (t : Tbl) (p : List Int) (n i k : Nat) (h : k < n) : (fun a => if a = i then (RowsU t p n i k i).set k (tA t i k + (vAt p i + vAt p k)) else RowsU t p n i k a) = RowsU t p n i (k + 1) := by
  funext a
  by_cases e : a = i
  · subst e
    simp only [if_true, RowsU, if_neg (Nat.lt_irrefl a)]
    exact rowU_set t p n a k h
  · simp only [if_neg e, RowsU]
theorem RowsU.next (t : Tbl) (p : List Int) (n i : Nat) : RowsU t p n i n = RowsU t p n (i + 1) 0 := by
  funext a
  simp only [RowsU]
  by_cases h1 : a < i
  · rw [if_pos h1, if_pos (by omega)]
  · rw [if_neg h1]
    by_cases h2 : a = i
    · rw [if_pos h2, if_pos (by omega)]
    · rw [if_neg h2, if_neg (by omega)]
      split <;> rfl
/-- The smallest sum of the pairs looked at. -/
structure TwoP (c : Tbl) (n i k : Nat) (two : Int) : Prop where
  has : ∃ x y : Nat, (1 ≤ x ∧ x < n) ∧ (1 ≤ y ∧ y < n) ∧ x ≠ y ∧ tA c 0 x + tA c 0 y = two
  low : ∀ x y : Nat, 1 ≤ y → y < x → x < n → (x < i ∨ (x = i ∧ y < k)) → two ≤ tA c 0 x + tA c 0 y
theorem TwoP.step {c : Tbl} {n i k : Nat} {two : Int} (h : TwoP c n i k two) (hi : i < n) (hk : 1 ≤ k) (hki : k < i) : TwoP c n i (k + 1) (min two (tA c 0 i + tA c 0 k)) := by
  refine ⟨?_, fun x y h1 h2 h3 h4 => ?_⟩
  · by_cases e : two ≤ tA c 0 i + tA c 0 k
    · rw [Int.min_eq_left e]; exact h.has
    · rw [Int.min_eq_right (by omega)]
      exact ⟨i, k, by omega, by omega, by omega, rfl⟩
  · have := Int.min_le_left two (tA c 0 i + tA c 0 k)
    have := Int.min_le_right two (tA c 0 i + tA c 0 k)
    by_cases e : x = i ∧ y = k
    · rw [e.1, e.2]; exact Int.min_le_right _ _
    · have := h.low x y h1 h2 h3 (by omega)
      omega
theorem TwoP.row {c : Tbl} {n i : Nat} {two : Int} (h : TwoP c n i i two) : TwoP c n (i + 1) 1 two := ⟨h.has, fun x y h1 h2 h3 h4 => h.low x y h1 h2 h3 (by omega)⟩
theorem TwoP.two {c : Tbl} {n : Nat} {two : Int} (h : TwoP c n n 1 two) : IsTwo c n two := by
  obtain ⟨x, y, h1, h2, h3, h4⟩ := h.has
  refine ⟨⟨x, y, by omega, by omega, by omega, h4⟩, fun a b ha hb hab => ?_⟩
  obtain ⟨a', rfl⟩ := Int.eq_ofNat_of_zero_le (show 0 ≤ a by omega)
  obtain ⟨b', rfl⟩ := Int.eq_ofNat_of_zero_le (show 0 ≤ b by omega)
  rcases Nat.lt_or_ge b' a' with e | e
  · exact h.low a' b' (by omega) e (by omega) (.inl (by omega))
  · have := h.low b' a' (by omega) (by omega) (by omega) (.inl (by omega))
    omega
theorem TwoP.bd {c : Tbl} {n i k : Nat} {two : Int} (h : TwoP c n i k two) (hs : Sq c n) : -6000 ≤ two ∧ two ≤ 6000 := by
  obtain ⟨x, y, h1, h2, _, h4⟩ := h.has
  have := hs.bd 0 x (by omega) h1.2
  have := hs.bd 0 y (by omega) h2.2
  rw [show ((0 : Nat) : Int) = 0 from rfl] at *
  omega
theorem TwoP.start {c : Tbl} {n : Nat} (h : 3 ≤ n) : TwoP c n 1 1 (tA c 0 1 + tA c 0 2) := ⟨⟨1, 2, by omega, by omega, by omega, rfl⟩, fun x y h1 h2 h3 h4 => by omega⟩
theorem sumT_bd2 {p : List Int} {k : Nat} (hk : k ≤ p.length) (h : ∀ j, j < k → zin (vAt p j) (-1000) 1000 = true) : -(1000 * (k : Int)) ≤ sumT p k ∧ sumT p k ≤ 1000 * (k : Int) := by
  have := sum_bd (p.take k) 1000 (fun x hx => by
    obtain ⟨j, hj, rfl⟩ := mem_vAt hx
    have hj' : j < k := by simp at hj; omega
    rw [vAt_take p k j hj']
    have := of_decide_eq_true (h j hj'); omega)
  rw [List.length_take, Nat.min_eq_left hk] at this
  unfold sumT
  omega
end Go.Proofs.Ytbffdpcogfmomaa
