/- Remainders are nearest to the quotas: plain facts. -/
import Derived.Test.YtnjaacmcdkiilaaShRemK
import Derived.Test.YtnjaacmcdkiilaaShErr
set_option linter.unusedVariables false
namespace Go.Proofs.Ytnjaacmcdkiilaa

theorem phi {S r q a e : Int} (hr : 0 ≤ r ∧ r < S) (hq : 0 ≤ q ∧ q ≤ S) (he : (e = 1 ∧ q ≤ r) ∨ (e = 0 ∧ r ≤ q)) : absI (e * S - r) + -e * (S - 2 * q) ≤ absI (a * S - r) + -a * (S - 2 * q) := by
  have e1 : -a * (S - 2 * q) = -(a * S) + 2 * (a * q) := by
    rw [Int.neg_mul, Int.mul_sub, Int.mul_left_comm]; omega
  have hl : absI (e * S - r) + -e * (S - 2 * q) = if e = 1 then 2 * q - r else r := by
    rcases he with ⟨rfl, h⟩ | ⟨rfl, h⟩
    · rw [if_pos rfl, Int.one_mul]
      unfold absI
      rw [if_pos (by omega)]
      omega
    · rw [if_neg (by decide), Int.zero_mul]
      unfold absI
      simp only [Int.neg_zero, Int.zero_mul]
      split <;> omega
  rw [hl, e1]
  rcases Int.lt_or_le 0 a with h | h
  · have p1 : 1 * S ≤ a * S := Int.mul_le_mul_of_nonneg_right h (by omega)
    have p2 : 1 * q ≤ a * q := Int.mul_le_mul_of_nonneg_right h hq.1
    generalize a * S = P at *
    generalize a * q = Q at *
    have ha : absI (P - r) = P - r := by unfold absI; rw [if_pos (by omega)]
    rw [ha]
    clear e1 hl ha
    split
    · omega
    · rcases he with ⟨rfl, g⟩ | ⟨rfl, g⟩
      · rename_i hn; exact absurd rfl hn
      · omega
  · have p1 : a * S ≤ 0 * S := Int.mul_le_mul_of_nonneg_right h (by omega)
    have p2 : a * (S - q) ≤ 0 * (S - q) := Int.mul_le_mul_of_nonneg_right h (by omega)
    rw [Int.mul_sub] at p2
    generalize a * S = P at *
    generalize a * q = Q at *
    have ha : absI (P - r) = r - P := by
      unfold absI
      split <;> omega
    rw [ha]
    split
    · rcases he with ⟨_, g⟩ | ⟨rfl, g⟩
      · omega
      · rename_i hn; exact absurd hn (by decide)
    · omega
theorem off_sum (os ms : List Int) : offL os ms = sumF (fun k => absI (difL os ms k)) os.length := by
  unfold offL
  generalize os.length = n
  induction n with
  | zero => rfl
  | succ n ih =>
    show sumL (gapsTo os ms n ++ [absI (difL os ms n)]) = sumF _ n + absI (difL os ms n)
    rw [sumL_app, ih]; simp [sumL]
/-- A division of as many meals is at least as far from the quotas. -/
theorem rem_nearest {os ms : List Int} (ho : okO os = true) (hm : okMs os ms = true) (hT : sumL ms ≤ 1000) : offL os (remL os (sumL ms)) ≤ offL os ms := by
  obtain ⟨_, hml, hs0, _⟩ := okMs_vals ho hm
  have hr : remO os (sumL ms) = true := by unfold remO inW; rw [ho]; simp; omega
  obtain ⟨_, g2, g3⟩ := remO_ok hr
  have hsum := remL_sum hr
  obtain ⟨hlS, l0, l1⟩ := lft_facts ho g2 g3
  generalize hTT : sumL ms = T at *
  obtain ⟨_, hs1, _⟩ := okO_vals ho
  have hf := fun k (hk : k < os.length) => flo_facts ho g2 g3 hk
  have hat := fun k (hk : k < os.length) => remL_at (os := os) (n := T) hk
  have hd1 : ∀ k, k < os.length → difL os (remL os T) k = (at0 (remL os T) k - flo os T k) * sumL os - fra os T k := by
    intro k hk
    have := (hf k hk).2.2.2.2.2.2
    unfold difL
    rw [hsum, Int.sub_mul]
    omega
  have hd2 : ∀ k, k < os.length → difL os ms k = (at0 ms k - flo os T k) * sumL os - fra os T k := by
    intro k hk
    have := (hf k hk).2.2.2.2.2.2
    unfold difL
    rw [hTT, Int.sub_mul]
    omega
  obtain ⟨q, hq, hlo, hhi⟩ : ∃ q, (0 ≤ q ∧ q ≤ sumL os) ∧ (∀ k, k < os.length → rnk (fra os T) os.length k < (lft os T).toNat → q ≤ fra os T k) ∧ (∀ k, k < os.length → ¬ rnk (fra os T) os.length k < (lft os T).toNat → fra os T k ≤ q) := by
    by_cases hz : lft os T = 0
    · exact ⟨sumL os, ⟨by omega, Int.le_refl _⟩, fun k hk h => by omega, fun k hk h => by have := (hf k hk).2.2.2.2.2.1; omega⟩
    · obtain ⟨b, hb, hbr⟩ := rnk_surj (fra os T) os.length ((lft os T).toNat - 1) (by omega)
      have hfb := hf b hb
      refine ⟨fra os T b, ⟨hfb.2.2.2.2.1, by omega⟩, fun k hk h => ?_, fun k hk h => ?_⟩
      · rcases Int.lt_or_le (fra os T k) (fra os T b) with g | g
        · have := rnk_lt_of (m := os.length) hb (bfr_iff.2 (.inl g) : bfr (fra os T) b k = true); omega
        · exact g
      · rcases Int.lt_or_le (fra os T b) (fra os T k) with g | g
        · have := rnk_lt_of (m := os.length) hk (bfr_iff.2 (.inl g) : bfr (fra os T) k b = true); omega
        · exact g
  have key : sumF (fun k => absI (difL os (remL os T) k) + -(at0 (remL os T) k - flo os T k) * (sumL os - 2 * q)) os.length ≤ sumF (fun k => absI (difL os ms k) + -(at0 ms k - flo os T k) * (sumL os - 2 * q)) os.length := by
    refine sumF_le (fun k hk => ?_)
    rw [hd1 k hk, hd2 k hk]
    have h1 := (hf k hk).2.2.2.2
    refine phi ⟨h1.1, h1.2.1⟩ hq ?_
    rw [hat k hk]
    by_cases hrk : rnk (fra os T) os.length k < (lft os T).toNat
    · rw [if_pos hrk]; exact .inl ⟨by omega, hlo k hk hrk⟩
    · rw [if_neg hrk]; exact .inr ⟨by omega, hhi k hk hrk⟩
  rw [sumF_add, sumF_mulr, sumF_add, sumF_mulr] at key
  have hsub : ∀ l : List Int, l.length = os.length → sumF (fun k => -(at0 l k - flo os T k)) os.length = -(sumL l) + sumF (flo os T) os.length := by
    intro l hl
    have e1 : (fun k => -(at0 l k - flo os T k)) = fun k => -1 * at0 l k + flo os T k := by funext k; omega
    rw [e1, sumF_add, sumF_mull, ← hl, ← sumL_at]
    omega
  rw [hsub _ (remL_len os T), hsub ms hml, hsum, hTT] at key
  rw [off_sum, off_sum]
  omega
theorem frac_le (x1 x2 y : Nat) (hy : 0 < y) (h : x1 ≤ x2) : (fracL x1 y).1 * (fracL x2 y).2 ≤ (fracL x2 y).1 * (fracL x1 y).2 := by
  unfold fracL
  dsimp only
  have g1 : 0 < Nat.gcd x1 y := Nat.gcd_pos_of_pos_right _ hy
  have g2 : 0 < Nat.gcd x2 y := Nat.gcd_pos_of_pos_right _ hy
  have a1 := Nat.div_mul_cancel (Nat.gcd_dvd_left x1 y)
  have a2 := Nat.div_mul_cancel (Nat.gcd_dvd_right x1 y)
  have b1 := Nat.div_mul_cancel (Nat.gcd_dvd_left x2 y)
  have b2 := Nat.div_mul_cancel (Nat.gcd_dvd_right x2 y)
  generalize Nat.gcd x1 y = g at *
  generalize Nat.gcd x2 y = k at *
  generalize x1 / g = p at *
  generalize y / g = u at *
  generalize x2 / k = q at *
  generalize y / k = v at *
  have h2 : (p * v) * (g * k) ≤ (q * u) * (g * k) := by
    have e1 : (p * v) * (g * k) = (p * g) * (v * k) := by rw [Nat.mul_mul_mul_comm]
    have e2 : (q * u) * (g * k) = (q * k) * (u * g) := by rw [Nat.mul_comm g k, Nat.mul_mul_mul_comm]
    rw [e1, e2, a1, b2, b1, a2]
    exact Nat.mul_le_mul_right y h
  have h3 := Nat.le_of_mul_le_mul_right h2 (Nat.mul_pos g1 g2)
  exact_mod_cast h3
theorem frac_bd (x y : Nat) : 0 ≤ (fracL x y).1 ∧ (fracL x y).1 ≤ (x : Int) ∧ 0 ≤ (fracL x y).2 ∧ (fracL x y).2 ≤ (y : Int) := by
  have h1 := Nat.div_le_self x (Nat.gcd x y)
  have h2 := Nat.div_le_self y (Nat.gcd x y)
  unfold fracL
  dsimp only
  generalize x / Nat.gcd x y = p at *
  generalize y / Nat.gcd x y = q at *
  omega
end Go.Proofs.Ytnjaacmcdkiilaa
