/- Smoothed numbers: plain functions. -/
import Derived.Test.YtfjncmhbpfcdiabGuCostM
set_option linter.unusedVariables false
namespace Go.Proofs.Ytfjncmhbpfcdiab

def cN (l : List Int) (j : Nat) : Nat := (cAt l j).toNat
/-- The sum over a power of den, after the number k. -/
def smN (l : List Int) (num den : Nat) : Nat → Nat
  | 0 => cN l 0
  | k + 1 => smN l num den k * (den - num) + cN l (k + 1) * num * den ^ k
def smB (l : List Int) (num den : Int) : Bool := allC 1000000 l && (decide (0 < l.length) && (cinB den 1 10 && cinB num 0 den))
theorem smN_le (l : List Int) (num den M : Nat) (hn : num ≤ den) (k : Nat) (h : ∀ j, j ≤ k → cN l j ≤ M) : smN l num den k ≤ M * den ^ k := by
  induction k with
  | zero => simpa [smN] using h 0 (Nat.le_refl _)
  | succ k ih =>
    have h1 := ih fun j hj => h j (by omega)
    have h2 := h (k + 1) (Nat.le_refl _)
    rw [smN]
    calc smN l num den k * (den - num) + cN l (k + 1) * num * den ^ k ≤ M * den ^ k * (den - num) + M * num * den ^ k :=
          Nat.add_le_add (Nat.mul_le_mul_right _ h1) (Nat.mul_le_mul_right _ (Nat.mul_le_mul_right _ h2))
      _ = M * den ^ k * (den - num) + M * den ^ k * num := by rw [Nat.mul_right_comm M num]
      _ = M * den ^ k * (den - num + num) := by rw [← Nat.mul_add]
      _ = M * den ^ (k + 1) := by rw [Nat.sub_add_cancel hn, Nat.mul_assoc, ← Nat.pow_succ]
theorem smN_ge (l : List Int) (num den m : Nat) (hn : num ≤ den) (k : Nat) (h : ∀ j, j ≤ k → m ≤ cN l j) : m * den ^ k ≤ smN l num den k := by
  induction k with
  | zero => simpa [smN] using h 0 (Nat.le_refl _)
  | succ k ih =>
    have h1 := ih fun j hj => h j (by omega)
    have h2 := h (k + 1) (Nat.le_refl _)
    rw [smN]
    calc m * den ^ (k + 1) = m * den ^ k * (den - num + num) := by rw [Nat.sub_add_cancel hn, Nat.mul_assoc, ← Nat.pow_succ]
      _ = m * den ^ k * (den - num) + m * den ^ k * num := by rw [Nat.mul_add]
      _ = m * den ^ k * (den - num) + m * num * den ^ k := by rw [Nat.mul_right_comm m num]
      _ ≤ smN l num den k * (den - num) + cN l (k + 1) * num * den ^ k :=
          Nat.add_le_add (Nat.mul_le_mul_right _ h1) (Nat.mul_le_mul_right _ (Nat.mul_le_mul_right _ h2))
theorem smB_ok {l : List Int} {num den : Int} (h : smB l num den = true) : (∀ i, i < l.length → 0 ≤ cAt l i ∧ cAt l i ≤ 1000000) ∧ 0 < l.length ∧ (1 ≤ den ∧ den ≤ 10) ∧ (0 ≤ num ∧ num ≤ den) := by
  unfold smB at h
  rw [Bool.and_eq_true] at h
  refine ⟨allC_at h.1, ?_⟩
  have := h.2
  simp [cinB] at this
  omega
theorem low_frac {m S P : Nat} (h : m * P ≤ S) : m * (P / Nat.gcd S P) ≤ S / Nat.gcd S P := by
  rcases Nat.eq_zero_or_pos (Nat.gcd S P) with h0 | hg
  · rw [h0]; simp
  · have hp : Nat.gcd S P * (P / Nat.gcd S P) = P := Nat.mul_div_cancel' (Nat.gcd_dvd_right S P)
    rw [Nat.le_div_iff_mul_le hg, Nat.mul_assoc, Nat.mul_comm (P / Nat.gcd S P), hp]; exact h
theorem high_frac {M S P : Nat} (h : S ≤ M * P) : S / Nat.gcd S P ≤ M * (P / Nat.gcd S P) := by
  rcases Nat.eq_zero_or_pos (Nat.gcd S P) with h0 | hg
  · rw [h0]; simp
  · have hp : Nat.gcd S P * (P / Nat.gcd S P) = P := Nat.mul_div_cancel' (Nat.gcd_dvd_right S P)
    have hs : Nat.gcd S P * (S / Nat.gcd S P) = S := Nat.mul_div_cancel' (Nat.gcd_dvd_left S P)
    refine Nat.le_of_mul_le_mul_left ?_ hg
    rw [hs, Nat.mul_left_comm, hp]; exact h
end Go.Proofs.Ytfjncmhbpfcdiab
