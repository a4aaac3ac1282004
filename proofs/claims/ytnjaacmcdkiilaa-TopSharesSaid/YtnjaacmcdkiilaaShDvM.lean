/- Which divisors prove: plain facts. -/
import Derived.Test.YtnjaacmcdkiilaaShareProvesW
import Derived.Test.YtnjaacmcdkiilaaShareChecksW
set_option linter.unusedVariables false
namespace Go.Proofs.Ytnjaacmcdkiilaa
open Go.RowKit

theorem fracL_facts {P Q : Nat} (hP : 1 ≤ P) (hQ : 1 ≤ Q) : ∃ p q g : Nat, fracL P Q = ((p : Int), (q : Int)) ∧ 1 ≤ g ∧ p * g = P ∧ q * g = Q ∧ 1 ≤ p ∧ p ≤ P ∧ 1 ≤ q ∧ q ≤ Q ∧ Nat.gcd p q = 1 := by
  have hg : 0 < Nat.gcd P Q := Nat.gcd_pos_of_pos_right _ (by omega)
  have h1 := Nat.div_mul_cancel (Nat.gcd_dvd_left P Q)
  have h2 := Nat.div_mul_cancel (Nat.gcd_dvd_right P Q)
  refine ⟨P / Nat.gcd P Q, Q / Nat.gcd P Q, Nat.gcd P Q, rfl, hg, h1, h2, ?_, Nat.div_le_self _ _, ?_, Nat.div_le_self _ _, ?_⟩
  · rcases Nat.eq_zero_or_pos (P / Nat.gcd P Q) with h | h
    · rw [h, Nat.zero_mul] at h1; omega
    · exact h
  · rcases Nat.eq_zero_or_pos (Q / Nat.gcd P Q) with h | h
    · rw [h, Nat.zero_mul] at h2; omega
    · exact h
  · have h3 := Nat.gcd_mul_right (P / Nat.gcd P Q) (Nat.gcd P Q) (Q / Nat.gcd P Q)
    rw [h1, h2] at h3
    generalize Nat.gcd (P / Nat.gcd P Q) (Q / Nat.gcd P Q) = d at *
    generalize Nat.gcd P Q = g at *
    have h4 : 1 * g = d * g := by omega
    exact (Nat.eq_of_mul_eq_mul_right hg h4).symm
theorem scale_le {a b : Int} {g : Nat} (hg : 1 ≤ g) : a ≤ b ↔ a * (g : Int) ≤ b * (g : Int) :=
  ⟨fun h => Int.mul_le_mul_of_nonneg_right h (by omega), fun h => Int.le_of_mul_le_mul_right h (by omega)⟩
theorem provA_scale {u : Int} {p q g P Q : Nat} {c : ClaimL} (hg : 1 ≤ g) (hp : p * g = P) (hq : q * g = Q) : provA u (p : Int) (q : Int) c = decide (c.2.2 * (P : Int) ≤ c.2.1 * u * (Q : Int)) := by
  unfold provA
  rw [decide_eq_decide, scale_le hg]
  have e1 : c.2.2 * (p : Int) * (g : Int) = c.2.2 * (P : Int) := by rw [Int.mul_assoc, ← hp]; simp
  have e2 : c.2.1 * u * (q : Int) * (g : Int) = c.2.1 * u * (Q : Int) := by rw [Int.mul_assoc, ← hq]; simp
  rw [e1, e2]
theorem provB_scale {u : Int} {p q g P Q : Nat} {c : ClaimL} (hg : 1 ≤ g) (hp : p * g = P) (hq : q * g = Q) : provB u (p : Int) (q : Int) c = decide (c.2.1 * u * (Q : Int) ≤ c.2.2 * (P : Int)) := by
  unfold provB
  rw [decide_eq_decide, scale_le hg]
  have e1 : c.2.2 * (p : Int) * (g : Int) = c.2.2 * (P : Int) := by rw [Int.mul_assoc, ← hp]; simp
  have e2 : c.2.1 * u * (q : Int) * (g : Int) = c.2.1 * u * (Q : Int) := by rw [Int.mul_assoc, ← hq]; simp
  rw [e1, e2]
theorem form_frac {P Q : Nat} (hP : 1 ≤ P) (hP2 : P ≤ 1000000000) (hQ : 1 ≤ Q) (hQ2 : Q ≤ 1000000000) : formB (fracL P Q).1 (fracL P Q).2 = true ∧ 1 ≤ (fracL P Q).1 ∧ (fracL P Q).1 ≤ 1000000000 ∧ 1 ≤ (fracL P Q).2 ∧ (fracL P Q).2 ≤ 1000000000 := by
  obtain ⟨p, q, g, e, _, _, _, h1, h2, h3, h4, h5⟩ := fracL_facts hP hQ
  rw [e]
  dsimp only
  refine ⟨?_, by omega, by omega, by omega, by omega⟩
  rw [formB, Int.toNat_natCast, Int.toNat_natCast]
  simp [inW, h5]; omega
/-- The greatest claim's own fraction proves, if anything does. -/
theorem top_proves {kind : Int} {os ms : List Int} (h : goodV os ms kind = true) (hd : hasDiv os ms kind = true) : provM kind os ms (divsL os ms kind).1 (divsL os ms kind).2 = true ∧ formB (divsL os ms kind).1 (divsL os ms kind).2 = true ∧ ∃ i, i < os.length ∧ 0 < stepV kind (at0 ms i) ∧ divsL os ms kind = fracL (at0 os i * unitV kind).toNat (stepV kind (at0 ms i)).toNat := by
  obtain ⟨g1, g2, g3⟩ := goodV_ok h
  have hm : topC kind os ms ∈ nextL kind os ms := lastMax_mem (by rw [nextL_len]; exact (okO_len g1).1)
  have hgt := topC_good (kind := kind) g1 g2
  have hub := unitV_bd kind
  have hgn : ∀ c ∈ nextL kind os ms, GoodC c := nextTo_good g1 g2 _ (Nat.le_refl _)
  have hgh : ∀ c ∈ heldL kind os ms, GoodC c := heldTo_good g1 g2 _ (Nat.le_refl _)
  have hx : (topC kind os ms).2.2 ≠ 0 ∧ fairM os ms kind = true := by
    rw [hasDiv, h, Bool.true_and, Bool.and_eq_true] at hd
    exact ⟨of_decide_eq_true hd.1, hd.2⟩
  have e : divsL os ms kind = fracL ((topC kind os ms).2.1 * unitV kind).toNat ((topC kind os ms).2.2).toNat := by rw [divsL, if_pos hd]
  obtain ⟨i, hi, ei⟩ := nextL_mem hm
  have hF := (fair_iff g1 g2).1 hx.2
  have hAll : ∀ c ∈ heldL kind os ms, 0 ≤ sizeL c (topC kind os ms) := fun c hc => by
    obtain ⟨k, hk, hp, rfl⟩ := (heldTo_mem _ _ _ _ _).1 hc
    rw [ei]
    by_cases hki : k = i
    · subst hki
      have := falls_size (kind := kind) g1 g2 hk hp
      omega
    · exact hF k i hk hi hki hp
  have hNx : ∀ c ∈ nextL kind os ms, 0 ≤ sizeL (topC kind os ms) c := fun c hc => lastMax_ge hgn hc
  have hti : (topC kind os ms).2.2 = stepV kind (at0 ms i) := by rw [ei]; rfl
  have hvi : (topC kind os ms).2.1 = at0 os i := by rw [ei]; rfl
  have hlast : ∃ i, i < os.length ∧ 0 < stepV kind (at0 ms i) ∧ divsL os ms kind = fracL (at0 os i * unitV kind).toNat (stepV kind (at0 ms i)).toNat := ⟨i, hi, by have := hgt.2.2.1; omega, by rw [e, hti, hvi]⟩
  refine ⟨?_, ?_, hlast⟩
  · obtain ⟨_, ⟨v1, v2⟩, t1, t2⟩ := hgt
    have t0 := hx.1
    unfold provM
    rw [e]
    have hszN : ∀ c ∈ nextL kind os ms, c.2.1 * (topC kind os ms).2.2 ≤ (topC kind os ms).2.1 * c.2.2 := fun c hc => by
      have := hNx c hc
      unfold sizeL szC at this
      rw [if_neg (by omega), cmpI_ge] at this
      omega
    have hszH : ∀ c ∈ heldL kind os ms, (topC kind os ms).2.1 * c.2.2 ≤ c.2.1 * (topC kind os ms).2.2 := fun c hc => by
      have := hAll c hc
      unfold sizeL szC at this
      rw [if_neg (by omega), cmpI_ge] at this
      omega
    clear hAll hNx hti hvi hlast e hm hx hd ei
    generalize (topC kind os ms).2.1 = v at *
    generalize (topC kind os ms).2.2 = t at *
    generalize unitV kind = u at *
    have hvu := mul_bd (by omega : 0 ≤ v) v2 (by omega : 0 ≤ u) hub.2
    have hvu1 : 0 < v * u := Int.mul_pos (by omega) (by omega)
    obtain ⟨P, hP⟩ := Int.eq_ofNat_of_zero_le hvu.1
    obtain ⟨Q, rfl⟩ := Int.eq_ofNat_of_zero_le t1
    rw [hP, Int.toNat_natCast, Int.toNat_natCast]
    obtain ⟨p, q, g, ef, hg, h1, h2, _⟩ := fracL_facts (P := P) (Q := Q) (by omega) (by omega)
    rw [ef]
    dsimp only
    rw [Bool.and_eq_true, List.all_eq_true, List.all_eq_true]
    constructor
    · intro c hc
      rw [provA_scale hg h1 h2, decide_eq_true_iff, ← hP]
      have := Int.mul_le_mul_of_nonneg_right (hszH c hc) (by omega : 0 ≤ u)
      have e1 : v * c.2.2 * u = c.2.2 * (v * u) := by ac_rfl
      have e2 : c.2.1 * (Q : Int) * u = c.2.1 * u * (Q : Int) := by ac_rfl
      omega
    · intro c hc
      rw [provB_scale hg h1 h2, decide_eq_true_iff, ← hP]
      have := Int.mul_le_mul_of_nonneg_right (hszN c hc) (by omega : 0 ≤ u)
      have e1 : v * c.2.2 * u = c.2.2 * (v * u) := by ac_rfl
      have e2 : c.2.1 * (Q : Int) * u = c.2.1 * u * (Q : Int) := by ac_rfl
      omega
  · obtain ⟨_, ⟨v1, v2⟩, t1, t2⟩ := hgt
    have t0 := hx.1
    rw [e]
    have hvu := mul_bd (by omega : 0 ≤ (topC kind os ms).2.1) v2 (by omega : 0 ≤ unitV kind) hub.2
    have hvu1 : 0 < (topC kind os ms).2.1 * unitV kind := Int.mul_pos (by omega) (by omega)
    exact (form_frac (by omega) (by omega) (by omega) (by omega)).1
/-- Any number that proves shows that there is a divisor. -/
theorem prov_has {kind p q : Int} {os ms : List Int} (h : goodV os ms kind = true) (hp : 1 ≤ p) (hq : 1 ≤ q) (hm : provM kind os ms p q = true) : hasDiv os ms kind = true := by
  obtain ⟨g1, g2, g3⟩ := goodV_ok h
  have hub := unitV_bd kind
  have hf : fairM os ms kind = true := (fair_iff g1 g2).2 fun i k hi hk hne hp' => by
    have hc := heldC_good (kind := kind) g1 g2 hi hp'
    have hn := nextC_good (kind := kind) g1 g2 hk
    have pa := (prov_iff.1 hm i hi).1 hp'
    have pb := (prov_iff.1 hm k hk).2
    simp only [provA, provB, decide_eq_true_eq] at pa pb
    exact prov_fair hub.1 hp hq hc.2.1.1 hn.2.1.1 hc.2.2.1 hn.2.2.1 pa pb
  have hm' : topC kind os ms ∈ nextL kind os ms := lastMax_mem (by rw [nextL_len]; exact (okO_len g1).1)
  obtain ⟨i, hi, ei⟩ := nextL_mem hm'
  have hgt := topC_good (kind := kind) g1 g2
  have pb := (prov_iff.1 hm i hi).2
  rw [← ei] at pb
  simp only [provB, decide_eq_true_eq] at pb
  have ht : (topC kind os ms).2.2 ≠ 0 := fun e => by
    rw [e, Int.zero_mul] at pb
    have := Int.mul_pos (Int.mul_pos (by have := hgt.2.1.1; omega : 0 < (topC kind os ms).2.1) (by omega : 0 < unitV kind)) (by omega : 0 < q)
    omega
  rw [hasDiv, h, hf]
  simp [ht]
theorem hasDiv_iff {kind : Int} {os ms : List Int} (h : goodV os ms kind = true) : hasDiv os ms kind = true ↔ ∃ i, i < os.length ∧ 0 < stepV kind (at0 ms i) ∧ provM kind os ms (fracL (at0 os i * unitV kind).toNat (stepV kind (at0 ms i)).toNat).1 (fracL (at0 os i * unitV kind).toNat (stepV kind (at0 ms i)).toNat).2 = true := by
  constructor
  · intro hd
    obtain ⟨h1, _, i, hi, hs, e⟩ := top_proves h hd
    exact ⟨i, hi, hs, by rw [← e]; exact h1⟩
  · rintro ⟨i, hi, hs, hm⟩
    obtain ⟨g1, g2, g3⟩ := goodV_ok h
    have hub := unitV_bd kind
    have hn := nextC_good (kind := kind) g1 g2 hi
    have hv : 1 ≤ at0 os i := hn.2.1.1
    have hvu1 : 0 < at0 os i * unitV kind := Int.mul_pos (by omega) (by omega)
    have hvu := mul_bd (by omega : 0 ≤ at0 os i) (show at0 os i ≤ 1000000 from hn.2.1.2) (by omega : 0 ≤ unitV kind) hub.2
    have ht : stepV kind (at0 ms i) ≤ 3000 := hn.2.2.2
    have := form_frac (P := (at0 os i * unitV kind).toNat) (Q := (stepV kind (at0 ms i)).toNat) (by omega) (by omega) (by omega) (by omega)
    exact prov_has h this.2.1 this.2.2.2.1 hm
theorem check_top {kind : Int} {os ms : List Int} (hd : hasDiv os ms kind = true) : checkE os ms kind (divsL os ms kind).1 (divsL os ms kind).2 = 0 := by
  have h : goodV os ms kind = true := by
    rw [hasDiv, Bool.and_eq_true] at hd; exact hd.1
  obtain ⟨h1, h2, _⟩ := top_proves h hd
  rw [checkE, if_neg (by simp [h]), if_neg (by simp [h2]), if_neg (by simp [h1])]
end Go.Proofs.Ytnjaacmcdkiilaa
