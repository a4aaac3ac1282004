/- What an item contains, as the least set that has it and all parts; labels grow with it: plain facts. -/
import Derived.Test.YtdgleicpcjfnoaaLabM
set_option linter.unusedVariables false
namespace Go.Proofs.Ytdgleicpcjfnoaa

def prt (its : List ItemL) (i : Nat) : List Int := (its[i]?.getD ([], [])).1
def hsL (its : List ItemL) (i : Nat) : List Int := (its[i]?.getD ([], [])).2
/-- Parts are earlier items. -/
def Down (its : List ItemL) : Prop := ∀ i, ∀ x ∈ prt its i, 0 ≤ x ∧ x < (i : Int)
theorem down_of {P : Int} {its : List ItemL} (hi : itemsE P 0 its = 0) : Down its := by
  intro i x hx
  by_cases h : i < its.length
  · have := isSetFrom_ge _ _ _ (itemsE_ok P its 0 hi i h).2.1 x hx
    omega
  · rw [prt, List.getElem?_eq_none (by omega)] at hx
    cases hx
theorem contTo_spec (its : List ItemL) (hd : Down its) : ∀ (k M : Nat), Sub M (contTo its M k) ∧ (∀ i, k ≤ i → (contTo its M k).testBit i = M.testBit i) ∧
    (∀ i, i < k → (contTo its M k).testBit i = true → ∀ x ∈ prt its i, (contTo its M k).testBit x.toNat = true) ∧
    ∀ C, Sub M C → (∀ i, i < k → C.testBit i = true → ∀ x ∈ prt its i, C.testBit x.toNat = true) → Sub (contTo its M k) C := by
  intro k
  induction k with
  | zero => intro M; exact ⟨Sub.refl _, fun i _ => rfl, fun i hi => by omega, fun C h _ => h⟩
  | succ k ih =>
    intro M
    rw [contTo]
    cases hb : M.testBit k with
    | false =>
      rw [if_neg (by simp)]
      obtain ⟨h1, h2, h3, h4⟩ := ih M
      refine ⟨h1, fun i hi => h2 i (by omega), fun i hi ht => ?_, fun C hs hc => h4 C hs (fun i hi => hc i (by omega))⟩
      by_cases e : i = k
      · subst e; rw [h2 i (Nat.le_refl _), hb] at ht; cases ht
      · exact h3 i (by omega) ht
    | true =>
      rw [if_pos rfl]
      obtain ⟨h1, h2, h3, h4⟩ := ih (M ||| maskL (its[k]?.getD ([], [])).1)
      have hM : Sub M (M ||| maskL (its[k]?.getD ([], [])).1) := Sub.or_left _ _
      have hbit : ∀ i, k ≤ i → (M ||| maskL (its[k]?.getD ([], [])).1).testBit i = M.testBit i := by
        intro i hi
        rw [Nat.testBit_or, testBit_maskL]
        have : ¬ ∃ x ∈ (its[k]?.getD ([], [])).1, x.toNat = i := by
          rintro ⟨x, hx, rfl⟩
          have := hd k x hx
          omega
        simp [this]
      refine ⟨hM.trans h1, fun i hi => by rw [h2 i (by omega), hbit i (by omega)], fun i hi ht => ?_, fun C hs hc => h4 C ?_ (fun i hi => hc i (by omega))⟩
      · by_cases e : i = k
        · subst e
          intro x hx
          refine h1 _ ?_
          rw [Nat.testBit_or, testBit_maskL, Bool.or_eq_true]
          right
          rw [decide_eq_true_iff]
          exact ⟨x, hx, rfl⟩
        · exact h3 i (by omega) ht
      · intro i hi
        rw [Nat.testBit_or, Bool.or_eq_true, testBit_maskL, decide_eq_true_iff] at hi
        rcases hi with hi | ⟨x, hx, rfl⟩
        · exact hs i hi
        · exact hc k (by omega) (hs k hb) x hx
theorem contL_self (its : List ItemL) (hd : Down its) (n : Nat) : (contL its n).testBit n = true := by
  refine (contTo_spec its hd (n + 1) (2 ^ n)).1 n ?_
  rw [Nat.testBit_two_pow]; simp
theorem contL_closed (its : List ItemL) (hd : Down its) (n i : Nat) (h : (contL its n).testBit i = true) : ∀ x ∈ prt its i, (contL its n).testBit x.toNat = true := by
  obtain ⟨h1, h2, h3, h4⟩ := contTo_spec its hd (n + 1) (2 ^ n)
  by_cases hi : i < n + 1
  · exact h3 i hi h
  · have := h2 i (by omega)
    rw [contL] at h
    rw [this, Nat.testBit_two_pow, decide_eq_true_iff] at h
    omega
theorem contL_le (its : List ItemL) (hd : Down its) (n i : Nat) (h : (contL its n).testBit i = true) : i ≤ n := by
  obtain ⟨h1, h2, h3, h4⟩ := contTo_spec its hd (n + 1) (2 ^ n)
  rcases Nat.lt_or_ge n i with hi | hi
  · have := h2 i (by omega)
    rw [contL] at h
    rw [this, Nat.testBit_two_pow, decide_eq_true_iff] at h
    omega
  · exact hi
theorem contL_trans (its : List ItemL) (hd : Down its) (n a : Nat) (h : (contL its n).testBit a = true) : Sub (contL its a) (contL its n) := by
  refine (contTo_spec its hd (a + 1) (2 ^ a)).2.2.2 _ ?_ (fun i _ => contL_closed its hd n i)
  intro i hi
  rw [Nat.testBit_two_pow, decide_eq_true_iff] at hi
  subst hi
  exact h
theorem own_bit (its : List ItemL) (n p : Nat) (hb : ∀ i, (contL its n).testBit i = true → i < 64) : (propsL (ownL its n)).testBit p = true ↔ ∃ i, (contL its n).testBit i = true ∧ ∃ x ∈ hsL its i, x.toNat = p := by
  rw [ownL, propsL_ownAll]
  constructor
  · rintro (h | ⟨f, hf, h3⟩)
    · simp [propsL, propsFrom] at h
    · obtain ⟨i, rfl, h1, h2⟩ := (mem_bitsTo _ _ _).1 hf
      exact ⟨i, h2, by simpa [hsL] using h3⟩
  · rintro ⟨i, h1, h2⟩
    exact .inr ⟨(i : Int), (mem_bitsTo _ _ _).2 ⟨i, rfl, hb i h1, h1⟩, by simpa [hsL] using h2⟩
/-- The label of what an item contains is a part of its own. -/
theorem labM_sub {p : Nat} {its : List ItemL} {rls : List RuleL} (hp : p ≤ 10) (hl : its.length ≤ 64) (hi : itemsE (p : Int) 0 its = 0) (hr : rulesE (p : Int) rls = 0) (n a : Nat) (hn : n < its.length) (h : (contL its n).testBit a = true) : Sub (labM its rls a) (labM its rls n) := by
  have hd := down_of hi
  have ha := contL_le its hd n a h
  have hbn : ∀ i, (contL its n).testBit i = true → i < its.length := fun i hb => by have := contL_le its hd n i hb; omega
  have hba : ∀ i, (contL its a).testBit i = true → i < its.length := fun i hb => by have := contL_le its hd a i hb; omega
  have h10 : ∀ m, (∀ i, (contL its m).testBit i = true → i < its.length) → propsL (ownL its m) < 2 ^ 10 := fun m hb => Nat.lt_of_lt_of_le (own_lt hi m hb hl) (Nat.pow_le_pow_right (by omega) hp)
  refine closL_mono rls ((rulesP_of hr).ok hp) _ _ (h10 a hba) (h10 n hbn) ?_
  intro q hq
  rw [own_bit its _ q (fun i hb => by have := hba i hb; omega)] at hq
  rw [own_bit its _ q (fun i hb => by have := hbn i hb; omega)]
  obtain ⟨i, h1, h2⟩ := hq
  exact ⟨i, contL_trans its hd n a h i h1, h2⟩
theorem labelL_len (P : Int) (its : List ItemL) (rls : List RuleL) (item : Int) : (labelL P its rls item).1.length ≤ 64 := by
  unfold labelL
  split
  · simp
  · exact bitsTo_len _ _
theorem labelL_bd (P : Int) (its : List ItemL) (rls : List RuleL) (item : Int) : ∀ x ∈ (labelL P its rls item).1, 0 ≤ x ∧ x < 64 := by
  unfold labelL
  split
  · intro x hx; cases hx
  · intro x hx
    obtain ⟨i, rfl, hi, _⟩ := (mem_bitsTo _ _ x).1 hx
    omega
/-- What the label of a contained item is. -/
theorem labelL_part {P : Int} {its : List ItemL} {rls : List RuleL} {item : Int} (h : checkIt P its rls item = 0) (y : Int) (hy : y ∈ bitsTo (contL its item.toNat) 64) :
  (labelL P its rls y).2 = 0 ∧ ∀ x ∈ (labelL P its rls y).1, x ∈ (labelL P its rls item).1 := by
  obtain ⟨hv, hi0, hi1⟩ := checkIt_ok h
  obtain ⟨v0, v1, v2, v3, v4, v5⟩ := validB_ok hv
  obtain ⟨p, rfl⟩ := Int.eq_ofNat_of_zero_le v0
  obtain ⟨n, rfl⟩ := Int.eq_ofNat_of_zero_le hi0
  rw [Int.toNat_natCast] at hy
  obtain ⟨a, rfl, ha64, hb⟩ := (mem_bitsTo _ _ _).1 hy
  have hle := contL_le its (down_of v4) n a hb
  have hca : checkIt (p : Int) its rls (a : Int) = 0 := by
    rw [checkIt, if_neg (by simp [hv]), if_pos ⟨by omega, by omega⟩]
  rw [labelL, if_neg (by simp [hca]), labelL, if_neg (by simp [h])]
  refine ⟨rfl, fun x hx => ?_⟩
  simp only [Int.toNat_natCast] at hx ⊢
  obtain ⟨i, rfl, h1, h2⟩ := (mem_bitsTo _ _ _).1 hx
  exact (mem_bitsTo _ _ _).2 ⟨i, rfl, h1, labM_sub (by omega) (by omega) v4 v5 n a (by omega) hb i h2⟩
end Go.Proofs.Ytdgleicpcjfnoaa
