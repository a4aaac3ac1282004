/- Plain arithmetic: the extended algorithm of Euclid, as the Go text steps it; its bounds. -/
set_option linter.unusedVariables false
namespace Go.Proofs.Ytilolaednbcaoaa

/-- The steps of the Go function gcd. -/
def egcd (a b f n : Int) : Int × Int :=
  if b ≤ 0 then (a, f) else egcd b (a % b) n (f - a / b * n)
termination_by b.toNat
decreasing_by
  have := Int.emod_lt_of_pos a (by omega : 0 < b)
  have := Int.emod_nonneg a (by omega : b ≠ 0)
  omega

theorem egcd_zero (a f n : Int) : egcd a 0 f n = (a, f) := by rw [egcd]; simp
theorem egcd_pos (a b f n : Int) (h : 0 < b) : egcd a b f n = egcd b (a % b) n (f - a / b * n) := by
  rw [egcd, if_neg (by omega)]

/-- The coefficients have different signs, and this sum stays as it is. -/
def EInv (B a b f n : Int) : Prop :=
  1 ≤ a ∧ 0 ≤ b ∧ -B ≤ f ∧ f ≤ B ∧ ((0 ≤ f ∧ n ≤ 0 ∧ f * b - n * a = B) ∨ (f ≤ 0 ∧ 0 ≤ n ∧ n * a - f * b = B))

theorem EInv.start (a b : Int) (ha : 1 ≤ a) (hb : 1 ≤ b) : EInv b a b 1 0 := by
  refine ⟨ha, by omega, by omega, by omega, .inl ⟨by omega, by omega, by omega⟩⟩

theorem le_mul_pos' (x y : Int) (hx : 0 ≤ x) (hy : 1 ≤ y) : x ≤ x * y := by
  have : x * 1 ≤ x * y := Int.mul_le_mul_of_nonneg_left hy hx
  omega

theorem EInv.n_bound {B a b f n : Int} (h : EInv B a b f n) : -B ≤ n ∧ n ≤ B := by
  obtain ⟨ha, hb, _, _, h⟩ := h
  rcases h with ⟨h1, h2, h3⟩ | ⟨h1, h2, h3⟩
  · have e1 := le_mul_pos' (-n) a (by omega) ha
    have e2 : 0 ≤ f * b := Int.mul_nonneg h1 hb
    rw [Int.neg_mul] at e1
    omega
  · have e1 := le_mul_pos' n a h2 ha
    have e2 : 0 ≤ (-f) * b := Int.mul_nonneg (by omega) hb
    rw [Int.neg_mul] at e2
    omega

/-- One step keeps all; the product that is made is no greater. -/
theorem EInv.step {B a b f n : Int} (h : EInv B a b f n) (hb1 : 0 < b) :
    EInv B b (a % b) n (f - a / b * n) ∧ -B ≤ a / b * n ∧ a / b * n ≤ B := by
  have hn := h.n_bound
  obtain ⟨ha, hb, hf1, hf2, h⟩ := h
  have hq : 0 ≤ a / b := Int.ediv_nonneg (by omega) hb
  have hr : 0 ≤ a % b := Int.emod_nonneg a (by omega)
  have hd : b * (a / b) + a % b = a := Int.mul_ediv_add_emod a b
  obtain ⟨q, hq'⟩ : ∃ q, q = a / b := ⟨_, rfl⟩
  obtain ⟨r, hr'⟩ : ∃ r, r = a % b := ⟨_, rfl⟩
  rw [← hq'] at hq hd ⊢
  rw [← hr'] at hr hd ⊢
  rcases h with ⟨h1, h2, h3⟩ | ⟨h1, h2, h3⟩
  · have hqn : 0 ≤ q * (-n) := Int.mul_nonneg hq (by omega)
    rw [Int.mul_neg] at hqn
    have key : (f - q * n) * b - n * r = B := by
      rw [← h3, ← hd, Int.sub_mul, Int.mul_add]
      have : q * n * b = n * (b * q) := by rw [Int.mul_comm q n, Int.mul_assoc, Int.mul_comm q b]
      omega
    have e1 := le_mul_pos' (f - q * n) b (by omega) (by omega)
    have e2 : 0 ≤ (-n) * r := Int.mul_nonneg (by omega) hr
    rw [Int.neg_mul] at e2
    exact ⟨⟨by omega, hr, by omega, by omega, .inr ⟨h2, by omega, by omega⟩⟩, by omega, by omega⟩
  · have hqn : 0 ≤ q * n := Int.mul_nonneg hq h2
    have key : n * r - (f - q * n) * b = B := by
      rw [← h3, ← hd, Int.sub_mul, Int.mul_add]
      have : q * n * b = n * (b * q) := by rw [Int.mul_comm q n, Int.mul_assoc, Int.mul_comm q b]
      omega
    have e1 := le_mul_pos' (-(f - q * n)) b (by omega) (by omega)
    rw [Int.neg_mul] at e1
    have e2 : 0 ≤ n * r := Int.mul_nonneg h2 hr
    exact ⟨⟨by omega, hr, by omega, by omega, .inl ⟨h2, by omega, by omega⟩⟩, by omega, by omega⟩

theorem gcd_step (a b : Int) (ha : 0 ≤ a) (hb : 0 < b) : Int.gcd b (a % b) = Int.gcd a b := by
  obtain ⟨A, rfl⟩ := Int.eq_ofNat_of_zero_le ha
  obtain ⟨B, rfl⟩ := Int.eq_ofNat_of_zero_le (Int.le_of_lt hb)
  show Nat.gcd B (A % B) = Nat.gcd A B
  rw [Nat.gcd_comm A B, Nat.gcd_rec B A, Nat.gcd_comm]

/-- What comes out: the greatest common divisor, and a coefficient. -/
theorem egcd_spec (B a b f n a0 : Int) (h : EInv B a b f n) (hf : ∃ k, a0 * f = a + k * B) (hn : ∃ k, a0 * n = b + k * B) :
    1 ≤ (egcd a b f n).1 ∧ (egcd a b f n).1 = Int.gcd a b ∧ -B ≤ (egcd a b f n).2 ∧ (egcd a b f n).2 ≤ B ∧ ∃ k, a0 * (egcd a b f n).2 = (egcd a b f n).1 + k * B := by
  induction hN : b.toNat using Nat.strongRecOn generalizing a b f n with
  | _ N ih =>
    by_cases hb : 0 < b
    · rw [egcd_pos _ _ _ _ hb]
      have hs := (h.step hb).1
      have hlt := Int.emod_lt_of_pos a hb
      have := ih (a % b).toNat (by have := hs.2.1; omega) b (a % b) n (f - a / b * n) hs hn (by
        obtain ⟨k1, e1⟩ := hf
        obtain ⟨k2, e2⟩ := hn
        refine ⟨k1 - a / b * k2, ?_⟩
        have hd : b * (a / b) + a % b = a := Int.mul_ediv_add_emod a b
        have e3 : a0 * (f - a / b * n) = a0 * f - a / b * (a0 * n) := by
          rw [Int.mul_sub]
          congr 1
          rw [← Int.mul_assoc, ← Int.mul_assoc, Int.mul_comm a0]
        rw [e3, e1, e2, Int.mul_add, Int.sub_mul]
        have : a / b * (k2 * B) = a / b * k2 * B := by rw [Int.mul_assoc]
        have : a / b * b = b * (a / b) := Int.mul_comm _ _
        omega) rfl
      obtain ⟨i1, i2, i3⟩ := this
      refine ⟨i1, ?_, i3⟩
      rw [i2]
      rw [gcd_step a b (by have := h.1; omega) hb]
    · obtain rfl : b = 0 := by have := h.2.1; omega
      rw [egcd_zero]
      have := h.1
      refine ⟨h.1, ?_, h.2.2.1, h.2.2.2.1, hf⟩
      simp [Int.gcd]
      omega

end Go.Proofs.Ytilolaednbcaoaa
