/- The cost of portions: plain functions. -/
import Derived.Test.YtfjncmhbpfcdiabGuM
set_option linter.unusedVariables false
namespace Go.Proofs.Ytfjncmhbpfcdiab

def cAt (l : List Int) (d : Nat) : Int := l[d]?.getD 0
/-- What q portions cost if d are wanted. -/
def oneC (o u : Int) (q d : Nat) : Int := if d ≤ q then o * ((q : Int) - d) else u * ((d : Int) - q)
def costTo (l : List Int) (o u : Int) (q : Nat) : Nat → Int
  | 0 => 0
  | k + 1 => costTo l o u q k + cAt l k * oneC o u q k
def costL (l : List Int) (o u : Int) (q : Nat) : Int := costTo l o u q l.length
/-- All numbers of a list are from 0 to m. -/
def allC (m : Int) : List Int → Bool
  | [] => true
  | x :: t => decide (0 ≤ x ∧ x ≤ m) && allC m t
def someC : List Int → Bool
  | [] => false
  | x :: t => decide (0 < x) || someC t
def countsB (l : List Int) : Bool := allC 10000 l && someC l && decide (l.length ≤ 101)
theorem allC_drop (m : Int) (l : List Int) (k : Nat) (h : k < l.length) : allC m (l.drop k) = (decide (0 ≤ cAt l k ∧ cAt l k ≤ m) && allC m (l.drop (k + 1))) := by
  rw [List.drop_eq_getElem_cons h, allC]; simp [cAt, h]
theorem someC_drop (l : List Int) (k : Nat) (h : k < l.length) : someC (l.drop k) = (decide (0 < cAt l k) || someC (l.drop (k + 1))) := by
  rw [List.drop_eq_getElem_cons h, someC]; simp [cAt, h]
theorem allC_at {m : Int} {l : List Int} (h : allC m l = true) (i : Nat) (hi : i < l.length) : 0 ≤ cAt l i ∧ cAt l i ≤ m := by
  induction l generalizing i with
  | nil => simp at hi
  | cons x t ih =>
    rw [allC, Bool.and_eq_true, decide_eq_true_eq] at h
    cases i with
    | zero => simpa [cAt] using h.1
    | succ i => have := ih h.2 i (by simpa using hi); simpa [cAt] using this
theorem allC_nn {m : Int} {l : List Int} (h : allC m l = true) (i : Nat) : 0 ≤ cAt l i := by
  rcases Nat.lt_or_ge i l.length with hh | hh
  · exact (allC_at h i hh).1
  · unfold cAt; rw [List.getElem?_eq_none hh]; exact Int.le_refl _
/-- What counts are that are good. -/
structure CountsOk (l : List Int) : Prop where
  len : l.length ≤ 101
  pos : 0 < l.length
  all : ∀ i, i < l.length → 0 ≤ cAt l i ∧ cAt l i ≤ 10000
  nn : ∀ i, 0 ≤ cAt l i
theorem countsB_ok {l : List Int} (h : countsB l = true) : CountsOk l := by
  unfold countsB at h
  rw [Bool.and_eq_true, Bool.and_eq_true, decide_eq_true_eq] at h
  refine ⟨h.2, ?_, allC_at h.1.1, allC_nn h.1.1⟩
  cases l with
  | nil => have := h.1.2; cases this
  | cons x t => simp
/-- The sum of a list's first numbers. -/
def sumTo (l : List Int) : Nat → Int
  | 0 => 0
  | k + 1 => sumTo l k + cAt l k
theorem sumTo_bd {l : List Int} (h : ∀ i, i < l.length → 0 ≤ cAt l i ∧ cAt l i ≤ 10000) (k : Nat) (hk : k ≤ l.length) : 0 ≤ sumTo l k ∧ sumTo l k ≤ 10000 * (k : Int) := by
  induction k with
  | zero => simp [sumTo]
  | succ k ih => have := ih (by omega); have := h k (by omega); rw [sumTo]; omega
theorem sumTo_zero {l : List Int} (h : ∀ i, i < l.length → 0 ≤ cAt l i ∧ cAt l i ≤ 10000) : sumTo l l.length = 0 ↔ someC l = false := by
  have key : ∀ k, k ≤ l.length → (sumTo l k = 0 ∧ someC (l.drop k) = false ↔ someC l = false ) := by
    intro k
    induction k with
    | zero => intro _; simp [sumTo]
    | succ k ih =>
      intro hk
      rw [← ih (by omega), someC_drop l k (by omega), sumTo]
      have h1 := h k (by omega)
      have h2 := (sumTo_bd h k (by omega)).1
      rw [Bool.or_eq_false_iff, decide_eq_false_iff_not]
      constructor
      · rintro ⟨a, b⟩; exact ⟨by omega, by omega, b⟩
      · rintro ⟨a, b, c⟩; exact ⟨by omega, c⟩
  have := key l.length (Nat.le_refl _)
  rw [List.drop_length] at this
  rw [← this]
  exact ⟨fun h => ⟨h, rfl⟩, fun h => h.1⟩

theorem oneC_bd (o u : Int) (q d : Nat) (ho : 0 ≤ o ∧ o ≤ 1000) (hu : 0 ≤ u ∧ u ≤ 1000) (hq : q ≤ 101) (hd : d ≤ 101) : 0 ≤ oneC o u q d ∧ oneC o u q d ≤ 101000 := by
  unfold oneC
  split
  · exact ⟨Int.mul_nonneg ho.1 (by omega), Int.le_trans (Int.mul_le_mul_of_nonneg_right ho.2 (by omega)) (by omega)⟩
  · exact ⟨Int.mul_nonneg hu.1 (by omega), Int.le_trans (Int.mul_le_mul_of_nonneg_right hu.2 (by omega)) (by omega)⟩
theorem costTo_bd {l : List Int} (h : CountsOk l) (o u : Int) (q k : Nat) (ho : 0 ≤ o ∧ o ≤ 1000) (hu : 0 ≤ u ∧ u ≤ 1000) (hq : q ≤ 101) (hk : k ≤ l.length) : 0 ≤ costTo l o u q k ∧ costTo l o u q k ≤ 1010000000 * (k : Int) := by
  induction k with
  | zero => simp [costTo]
  | succ k ih =>
    have h1 := ih (by omega)
    have h2 := oneC_bd o u q k ho hu hq (by have := h.len; omega)
    have h3 := h.all k (by omega)
    rw [costTo]
    have h4 := Int.mul_nonneg h3.1 h2.1
    have h5 : cAt l k * oneC o u q k ≤ 10000 * 101000 := Int.le_trans (Int.mul_le_mul_of_nonneg_right h3.2 h2.1) (Int.mul_le_mul_of_nonneg_left h2.2 (by omega))
    omega
/-- The smallest of the numbers below k with the least cost. -/
def qTo (l : List Int) (o u : Int) : Nat → Nat
  | 0 => 0
  | k + 1 => if costL l o u k < costL l o u (qTo l o u k) then k else qTo l o u k
theorem qTo_lt (l : List Int) (o u : Int) (k : Nat) (h : 0 < k) : qTo l o u k < k := by
  induction k with
  | zero => omega
  | succ k ih =>
    rw [qTo]; split
    · omega
    · rcases Nat.eq_zero_or_pos k with rfl | hh
      · simp [qTo]
      · have := ih hh; omega
theorem qTo_le (l : List Int) (o u : Int) (k : Nat) : qTo l o u k ≤ k := by
  rcases Nat.eq_zero_or_pos k with rfl | h
  · exact Nat.le_refl _
  · exact Nat.le_of_lt (qTo_lt l o u k h)
theorem qTo_min (l : List Int) (o u : Int) (k p : Nat) (h : p < k) : costL l o u (qTo l o u k) ≤ costL l o u p := by
  induction k with
  | zero => omega
  | succ k ih =>
    rw [qTo]
    rcases Nat.lt_or_ge p k with hh | hh
    · have := ih hh; split <;> omega
    · obtain rfl : p = k := by omega
      split <;> omega
theorem qTo_first (l : List Int) (o u : Int) (k p : Nat) (h : p < qTo l o u k) : costL l o u (qTo l o u k) < costL l o u p := by
  induction k with
  | zero => simp [qTo] at h
  | succ k ih =>
    rw [qTo] at h ⊢
    split
    · rename_i hc
      rw [if_pos hc] at h
      exact Int.lt_of_lt_of_le hc (qTo_min l o u k p h)
    · rename_i hc
      rw [if_neg hc] at h
      exact ih h
theorem mul_nn {a b : Int} (h : 0 ≤ a) (h2 : 0 ≤ b) : 0 ≤ a * b := Int.mul_nonneg h h2
theorem oneC_step (o u : Int) (q d : Nat) : oneC o u (q + 1) d - oneC o u q d = if d ≤ q then o else -u := by
  unfold oneC
  by_cases h : d ≤ q
  · rw [if_pos h, if_pos (by omega), if_pos h]
    rw [← Int.mul_sub, show ((q + 1 : Nat) : Int) - d - (q - d) = 1 by omega, Int.mul_one]
  · rw [if_neg h, if_neg h]
    by_cases h2 : d ≤ q + 1
    · rw [if_pos h2, show ((q + 1 : Nat) : Int) - d = 0 by omega, show (d : Int) - q = 1 by omega]; omega
    · rw [if_neg h2, ← Int.mul_sub, show (d : Int) - (q + 1 : Nat) - (d - q) = -1 by omega]; omega
/-- What one more portion costs, over the first k counts. -/
def mrgTo (l : List Int) (o u : Int) (q : Nat) : Nat → Int
  | 0 => 0
  | k + 1 => mrgTo l o u q k + cAt l k * (if k ≤ q then o else -u)
theorem mrgTo_eq (l : List Int) (o u : Int) (q k : Nat) : costTo l o u (q + 1) k - costTo l o u q k = mrgTo l o u q k := by
  induction k with
  | zero => simp [costTo, mrgTo]
  | succ k ih =>
    rw [costTo, costTo, mrgTo, ← ih, ← oneC_step o u q k, Int.mul_sub]; omega
def mrgL (l : List Int) (o u : Int) (q : Nat) : Int := costL l o u (q + 1) - costL l o u q
theorem mrgL_eq (l : List Int) (o u : Int) (q : Nat) : mrgL l o u q = mrgTo l o u q l.length := mrgTo_eq l o u q l.length
theorem mrg_mono {l : List Int} (h : ∀ i, 0 ≤ cAt l i) (o u : Int) (ho : 0 ≤ o) (hu : 0 ≤ u) (q : Nat) : mrgL l o u q ≤ mrgL l o u (q + 1) := by
  rw [mrgL_eq, mrgL_eq]
  have : ∀ k, mrgTo l o u q k ≤ mrgTo l o u (q + 1) k := by
    intro k
    induction k with
    | zero => exact Int.le_refl _
    | succ k ih =>
      rw [mrgTo, mrgTo]
      have : (if k ≤ q then o else -u) ≤ (if k ≤ q + 1 then o else -u) := by split <;> split <;> omega
      have := Int.mul_le_mul_of_nonneg_left this (h k)
      omega
  exact this _
theorem mrg_mono' {l : List Int} (h : ∀ i, 0 ≤ cAt l i) (o u : Int) (ho : 0 ≤ o) (hu : 0 ≤ u) {p q : Nat} (hpq : p ≤ q) : mrgL l o u p ≤ mrgL l o u q := by
  induction hpq with
  | refl => exact Int.le_refl _
  | step _ ih => exact Int.le_trans ih (mrg_mono h o u ho hu _)
theorem mrg_late {l : List Int} (h : ∀ i, 0 ≤ cAt l i) (o u : Int) (ho : 0 ≤ o) (q : Nat) (hq : l.length ≤ q + 1) : 0 ≤ mrgL l o u q := by
  rw [mrgL_eq]
  have : ∀ k, k ≤ l.length → 0 ≤ mrgTo l o u q k := by
    intro k
    induction k with
    | zero => exact fun _ => Int.le_refl _
    | succ k ih =>
      intro hk
      rw [mrgTo, if_pos (by omega)]
      have := Int.mul_nonneg (h k) ho
      have := ih (by omega)
      omega
  exact this _ (Nat.le_refl _)
theorem cost_up {l : List Int} (h : ∀ i, 0 ≤ cAt l i) (o u : Int) (ho : 0 ≤ o) (hu : 0 ≤ u) (q : Nat) (hq : 0 ≤ mrgL l o u q) (j : Nat) : costL l o u q ≤ costL l o u (q + j) := by
  induction j with
  | zero => exact Int.le_refl _
  | succ j ih =>
    have := mrg_mono' h o u ho hu (show q ≤ q + j by omega)
    have e : mrgL l o u (q + j) = costL l o u (q + j + 1) - costL l o u (q + j) := rfl
    rw [← Nat.add_assoc]; omega
theorem cost_down {l : List Int} (h : ∀ i, 0 ≤ cAt l i) (o u : Int) (ho : 0 ≤ o) (hu : 0 ≤ u) (q : Nat) (hq : mrgL l o u q ≤ 0) (j : Nat) (hj : j ≤ q) : costL l o u (q + 1) ≤ costL l o u (q - j) := by
  induction j with
  | zero =>
    have e : mrgL l o u q = costL l o u (q + 1) - costL l o u q := rfl
    simp; omega
  | succ j ih =>
    have h1 := ih (by omega)
    have h2 := mrg_mono' h o u ho hu (show q - (j + 1) ≤ q by omega)
    have e : mrgL l o u (q - (j + 1)) = costL l o u (q - (j + 1) + 1) - costL l o u (q - (j + 1)) := rfl
    rw [show q - (j + 1) + 1 = q - j by omega] at e
    omega
/-- No number of portions costs less than the best. -/
theorem best_all {l : List Int} (h : CountsOk l) (o u : Int) (ho : 0 ≤ o) (hu : 0 ≤ u) (p : Nat) : costL l o u (qTo l o u l.length) ≤ costL l o u p := by
  have hp := h.pos
  rcases Nat.lt_or_ge p l.length with hh | hh
  · exact qTo_min l o u _ p hh
  · have h1 := qTo_min l o u l.length (l.length - 1) (by omega)
    have h2 := cost_up h.nn o u ho hu (l.length - 1) (mrg_late h.nn o u ho (l.length - 1) (by omega)) (p - (l.length - 1))
    rw [show l.length - 1 + (p - (l.length - 1)) = p by omega] at h2
    omega
theorem qTo_more {l : List Int} (h : CountsOk l) (o u : Int) (ho : 0 ≤ o) (hu : 0 ≤ u) : qTo l o u (l.length + 1) = qTo l o u l.length := by
  rw [qTo, if_neg (by have := best_all h o u ho hu l.length; omega)]
theorem qTo_one (l : List Int) (o u : Int) : qTo l o u 1 = 0 := by simp [qTo]
/-- Which numbers are best. -/
theorem best_iff {l : List Int} (h : CountsOk l) (o u : Int) (ho : 0 ≤ o) (hu : 0 ≤ u) (q : Nat) : costL l o u q = costL l o u (qTo l o u l.length) ↔ 0 ≤ mrgL l o u q ∧ (q = 0 ∨ mrgL l o u (q - 1) ≤ 0) := by
  have hb := best_all h o u ho hu
  constructor
  · intro e
    have h1 := hb (q + 1)
    refine ⟨by unfold mrgL; omega, ?_⟩
    rcases Nat.eq_zero_or_pos q with hz | hz
    · exact .inl hz
    · right
      have h2 := hb (q - 1)
      unfold mrgL
      rw [show q - 1 + 1 = q by omega]; omega
  · rintro ⟨h1, h2⟩
    have h3 := hb q
    have key : ∀ p, costL l o u q ≤ costL l o u p := by
      intro p
      rcases Nat.lt_or_ge p q with hh | hh
      · rcases h2 with rfl | h2
        · omega
        · have := cost_down h.nn o u ho hu (q - 1) h2 (q - 1 - p) (by omega)
          rw [show q - 1 + 1 = q by omega, show q - 1 - (q - 1 - p) = p by omega] at this
          exact this
      · have := cost_up h.nn o u ho hu q h1 (p - q)
        rw [show q + (p - q) = p by omega] at this
        exact this
    have := key (qTo l o u l.length)
    omega
/-- The error of counts and costs, and of a number of portions. -/
def portE (l : List Int) (o u q : Int) : Int := if countsB l = true ∧ cinB o 0 1000 = true ∧ cinB u 0 1000 = true ∧ cinB q 0 100 = true then 0 else 1
def costV (l : List Int) (o u q : Int) : Int × Int := if portE l o u q = 0 then (costL l o u q.toNat, 0) else (0, portE l o u q)
def mrgV (l : List Int) (o u q : Int) : Int × Int := if portE l o u q = 0 then (mrgL l o u q.toNat, 0) else (0, portE l o u q)
def qntV (l : List Int) (o u : Int) : Int × Int := if portE l o u 0 = 0 then ((qTo l o u l.length : Nat), 0) else (0, portE l o u 0)
def bstV (l : List Int) (o u q : Int) : Bool × Int := if portE l o u q = 0 then (decide (costL l o u q.toNat = costL l o u (qTo l o u l.length)), 0) else (false, portE l o u q)
theorem portE_ok {l : List Int} {o u q : Int} (h : portE l o u q = 0) : CountsOk l ∧ (0 ≤ o ∧ o ≤ 1000) ∧ (0 ≤ u ∧ u ≤ 1000) ∧ (0 ≤ q ∧ q ≤ 100) := by
  unfold portE at h
  split at h
  · rename_i hh
    obtain ⟨a, b, c, d⟩ := hh
    exact ⟨countsB_ok a, by simpa [cinB] using b, by simpa [cinB] using c, by simpa [cinB] using d⟩
  · cases h
theorem portE_cases (l : List Int) (o u q : Int) : portE l o u q = 0 ∨ portE l o u q = 1 := by
  unfold portE; split
  · exact .inl rfl
  · exact .inr rfl
end Go.Proofs.Ytfjncmhbpfcdiab
