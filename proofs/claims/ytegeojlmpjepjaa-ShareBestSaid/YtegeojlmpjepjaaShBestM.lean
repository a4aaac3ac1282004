/- Quotas from below and from above: plain facts. -/
import Derived.Test.YtegeojlmpjepjaaShSomM
import Derived.Test.YtegeojlmpjepjaaShU
set_option linter.unusedVariables false
namespace Go.Proofs.Ytegeojlmpjepjaa
open Go.RowKit

theorem sumL_mul (c : Int) (l : List Int) : sumL (l.map (fun x => c * x)) = c * sumL l := by
  induction l with
  | nil => simp [sumL]
  | cons x t ih => simp only [List.map_cons, sumL, ih]; rw [Int.mul_add]
theorem at0_map (c : Int) (l : List Int) (k : Nat) (h : k < l.length) : at0 (l.map (fun x => c * x)) k = c * at0 l k := by
  unfold at0; rw [List.getElem?_map, List.getElem?_eq_getElem h]; rfl
/-- Who has less than its quota is made up for by one who has more; and the other way round. -/
theorem some_more {os ms : List Int} {n : Int} (hl : ms.length = os.length) (hs : sumL ms = n) {i : Nat} (hi : i < os.length) :
    (sumL os * at0 ms i < n * at0 os i → ∃ k, k < os.length ∧ n * at0 os k < sumL os * at0 ms k) ∧ (n * at0 os i < sumL os * at0 ms i → ∃ k, k < os.length ∧ sumL os * at0 ms k < n * at0 os k) := by
  have e : sumL (ms.map (fun x => sumL os * x)) = sumL (os.map (fun x => n * x)) := by rw [sumL_mul, sumL_mul, hs, Int.mul_comm]
  constructor
  · intro h
    by_cases hk : ∃ k, k < os.length ∧ n * at0 os k < sumL os * at0 ms k
    · exact hk
    · exfalso
      have := (sum_le_eq (a := ms.map (fun x => sumL os * x)) (b := os.map (fun x => n * x)) (by simp [hl]) (fun k hk' => by
        rw [List.length_map] at hk'
        rw [at0_map _ _ _ hk', at0_map _ _ _ (by omega)]
        exact Int.not_lt.1 (fun g => hk ⟨k, by omega, g⟩))).2 e
      have h1 := at0_map (sumL os) ms i (by omega)
      have h2 := at0_map n os i hi
      rw [this] at h1
      omega
  · intro h
    by_cases hk : ∃ k, k < os.length ∧ sumL os * at0 ms k < n * at0 os k
    · exact hk
    · exfalso
      have := (sum_le_eq (a := os.map (fun x => n * x)) (b := ms.map (fun x => sumL os * x)) (by simp [hl]) (fun k hk' => by
        rw [List.length_map] at hk'
        rw [at0_map _ _ _ hk', at0_map _ _ _ (by omega)]
        exact Int.not_lt.1 (fun g => hk ⟨k, by omega, g⟩))).2 e.symm
      have h1 := at0_map (sumL os) ms i (by omega)
      have h2 := at0_map n os i hi
      rw [← this] at h1
      omega
theorem szC_le {v a w b : Int} (h : 0 ≤ szC v a w b) (hn : ¬ (a = 0 ∧ b = 0)) : w * a ≤ v * b := by
  unfold szC at h
  rw [if_neg hn, cmpI_ge] at h
  exact h
theorem down_quota {os : List Int} (ho : okO os = true) (n : Nat) (hn : n ≤ 1000) (i : Nat) (hi : i < os.length) : (n : Int) * at0 os i / sumL os ≤ at0 (giveL 0 os n).2 i := by
  obtain ⟨v1, s1, s2⟩ := okO_vals ho
  have hl := giveL_len2 0 os n
  have hs := giveL_sum (kind := 0) (okO_len ho).1 n
  have hO := giveL_ordered (kind := 0) ho n hn
  have hb := giveL_bd 0 os n
  generalize (giveL 0 os n).2 = ms at *
  have hvi : 1 ≤ at0 os i := (v1 _ (getD_mem os i hi)).1
  by_cases h : (n : Int) * at0 os i / sumL os ≤ at0 ms i
  · exact h
  · exfalso
    have h1 := Int.ediv_mul_le ((n : Int) * at0 os i) (by omega : sumL os ≠ 0)
    have h2 : (at0 ms i + 1) * sumL os ≤ (n : Int) * at0 os i := Int.le_trans (Int.mul_le_mul_of_nonneg_right (by omega) (by omega)) h1
    have h3 : (at0 ms i + 1) * sumL os = sumL os * at0 ms i + sumL os := by rw [Int.add_mul, Int.mul_comm]; omega
    obtain ⟨k, hk, hm⟩ := (some_more hl hs hi).1 (by omega)
    have hvk : 1 ≤ at0 os k := (v1 _ (getD_mem os k hk)).1
    have hmk : 0 < at0 ms k := by
      rcases Int.lt_or_le 0 (at0 ms k) with g | g
      · exact g
      · have : at0 ms k = 0 := by have := (hb k).1; omega
        rw [this, Int.mul_zero] at hm
        have := Int.mul_nonneg (show (0 : Int) ≤ n by omega) (show 0 ≤ at0 os k by omega)
        omega
    have hf := rankL_size (by have := hO k i hk hi hmk; omega : 0 ≤ rankL (heldC 0 os ms k) (nextC 0 os ms i))
    have e1 : sizeL (heldC 0 os ms k) (nextC 0 os ms i) = szC (at0 os k) (at0 ms k - 1 + 1) (at0 os i) (at0 ms i + 1) := by simp [sizeL, heldC, nextC, stepV]
    rw [e1, Int.sub_add_cancel] at hf
    have h4 := szC_le hf (by omega)
    -- h4 : v_i * m_k ≤ v_k * (m_i + 1)
    have h5 := Int.mul_le_mul_of_nonneg_right h4 (by omega : 0 ≤ sumL os)
    have h6 := Int.mul_le_mul_of_nonneg_left h2 (by omega : 0 ≤ at0 os k)
    have h7 := Int.mul_lt_mul_of_pos_left hm (by omega : 0 < at0 os i)
    have a1 : at0 os i * at0 ms k * sumL os = at0 os i * (sumL os * at0 ms k) := by ac_rfl
    have a2 : at0 os k * (at0 ms i + 1) * sumL os = at0 os k * ((at0 ms i + 1) * sumL os) := by ac_rfl
    have a3 : at0 os k * ((n : Int) * at0 os i) = at0 os i * ((n : Int) * at0 os k) := by ac_rfl
    omega
theorem up_quota {os : List Int} (ho : okO os = true) (n : Nat) (hn : n ≤ 1000) (i : Nat) (hi : i < os.length) (hp : 0 < at0 (giveL 2 os n).2 i) : (at0 (giveL 2 os n).2 i - 1) * sumL os < (n : Int) * at0 os i := by
  obtain ⟨v1, s1, s2⟩ := okO_vals ho
  have hl := giveL_len2 2 os n
  have hs := giveL_sum (kind := 2) (okO_len ho).1 n
  have hO := giveL_ordered (kind := 2) ho n hn
  have hb := giveL_bd 2 os n
  generalize (giveL 2 os n).2 = ms at *
  have hvi : 1 ≤ at0 os i := (v1 _ (getD_mem os i hi)).1
  by_cases h : (at0 ms i - 1) * sumL os < (n : Int) * at0 os i
  · exact h
  · exfalso
    have h3 : (at0 ms i - 1) * sumL os = sumL os * at0 ms i - sumL os := by rw [Int.sub_mul, Int.mul_comm]; omega
    obtain ⟨k, hk, hm⟩ := (some_more hl hs hi).2 (by omega)
    have hvk : 1 ≤ at0 os k := (v1 _ (getD_mem os k hk)).1
    have hmk0 := (hb k).1
    have hf := rankL_size (by have := hO i k hi hk hp; omega : 0 ≤ rankL (heldC 2 os ms i) (nextC 2 os ms k))
    have e1 : sizeL (heldC 2 os ms i) (nextC 2 os ms k) = szC (at0 os i) (at0 ms i - 1) (at0 os k) (at0 ms k) := by simp [sizeL, heldC, nextC, stepV]
    rw [e1] at hf
    have hnz : ¬ (at0 ms i - 1 = 0 ∧ at0 ms k = 0) := by
      rintro ⟨z1, z2⟩
      rw [z1, Int.zero_mul] at h
      rw [z2, Int.mul_zero] at hm
      have hn0 : (n : Int) = 0 := by
        rcases Nat.eq_zero_or_pos n with g | g
        · omega
        · have := Int.mul_pos (show (0 : Int) < n by omega) (show 0 < at0 os i by omega)
          omega
      rw [hn0, Int.zero_mul] at hm
      omega
    have h4 := szC_le hf hnz
    -- h4 : v_k * (m_i - 1) ≤ v_i * m_k
    have h5 := Int.mul_le_mul_of_nonneg_right h4 (by omega : 0 ≤ sumL os)
    have h6 := Int.mul_le_mul_of_nonneg_left (by omega : (n : Int) * at0 os i ≤ (at0 ms i - 1) * sumL os) (by omega : 0 ≤ at0 os k)
    have h7 := Int.mul_lt_mul_of_pos_left hm (by omega : 0 < at0 os i)
    have a1 : at0 os k * (at0 ms i - 1) * sumL os = at0 os k * ((at0 ms i - 1) * sumL os) := by ac_rfl
    have a2 : at0 os i * at0 ms k * sumL os = at0 os i * (sumL os * at0 ms k) := by ac_rfl
    have a3 : at0 os k * ((n : Int) * at0 os i) = at0 os i * ((n : Int) * at0 os k) := by ac_rfl
    omega
end Go.Proofs.Ytegeojlmpjepjaa
