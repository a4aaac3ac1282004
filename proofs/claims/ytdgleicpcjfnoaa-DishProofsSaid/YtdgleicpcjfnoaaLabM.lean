/- How large labels and closures are: plain facts. -/
import Derived.Test.YtdgleicpcjfnoaaRBookM
set_option linter.unusedVariables false
namespace Go.Proofs.Ytdgleicpcjfnoaa

theorem lt_of_sub {M P : Nat} (h : ∀ i, M.testBit i = true → i < P) : M < 2 ^ P := by
  apply Nat.lt_pow_two_of_testBit
  intro i hi
  cases hb : M.testBit i with
  | false => rfl
  | true => have := h i hb; omega
theorem bit_lt {M P i : Nat} (h : M < 2 ^ P) (hb : M.testBit i = true) : i < P := Nat.lt_of_not_le fun hh => by
  rw [Nat.testBit_lt_two_pow (Nat.lt_of_lt_of_le h (Nat.pow_le_pow_right (by omega) hh))] at hb; cases hb
/-- Rules of a book with P properties. -/
def RulesP (P : Nat) (rls : List RuleL) : Prop := ∀ r ∈ rls, (∀ x ∈ r.1, 0 ≤ x ∧ x < (P : Int)) ∧ 0 ≤ r.2 ∧ r.2 < (P : Int)
theorem RulesP.ok {P : Nat} {rls : List RuleL} (h : RulesP P rls) (hP : P ≤ 10) : RulesOk rls := fun r hr => ⟨fun x hx => by have := (h r hr).1 x hx; omega, (h r hr).2.1, by have := (h r hr).2.2; omega⟩
theorem rulesP_of {P : Nat} {rls : List RuleL} (h : rulesE (P : Int) rls = 0) : RulesP P rls := by
  intro r hr
  obtain ⟨k, hk, rfl⟩ := List.mem_iff_getElem.1 hr
  obtain ⟨h1, h2, h3⟩ := rulesE_ok (P : Int) rls h k hk
  rw [List.getElem?_eq_getElem hk, Option.getD_some] at h1 h2 h3
  exact ⟨isSetFrom_ge _ _ _ h1, h2, h3⟩
theorem closL_ltP {P : Nat} {rls : List RuleL} (h : RulesP P rls) (hP : P ≤ 10) (M : Nat) (hM : M < 2 ^ P) : closL rls M < 2 ^ P := by
  have hM10 : M < 2 ^ 10 := Nat.lt_of_lt_of_le hM (Nat.pow_le_pow_right (by omega) hP)
  have hs := (closL_spec rls (h.ok hP) M hM10).2.2.2 (2 ^ P - 1) (fun r hr _ => by
    rw [Nat.testBit_two_pow_sub_one, decide_eq_true_iff]; have := h r hr; omega) (fun i hi => by
    rw [Nat.testBit_two_pow_sub_one, decide_eq_true_iff]; exact bit_lt hM hi)
  refine lt_of_sub fun i hi => ?_
  have := hs i hi
  rw [Nat.testBit_two_pow_sub_one, decide_eq_true_iff] at this
  exact this
theorem own_lt {P : Nat} {its : List ItemL} (hi : itemsE (P : Int) 0 its = 0) (item : Nat) (hb : ∀ i, (contL its item).testBit i = true → i < its.length) (hl : its.length ≤ 64) : propsL (ownL its item) < 2 ^ P := by
  rw [← base_own its item hb hl]
  refine lt_of_sub fun p hp => ?_
  obtain ⟨i, h1, h2, x, hx, rfl⟩ := (baseTo_bit its _ _ p).1 hp
  have := isSetFrom_ge _ _ _ (itemsE_ok (P : Int) its 0 hi i h1).2.2 x hx
  omega
theorem bitsTo_P {M P : Nat} (h : M < 2 ^ P) (hP : P ≤ 64) : bitsTo M P = bitsTo M 64 :=
  bitsTo_eq M P 64 h (Nat.lt_of_lt_of_le h (Nat.pow_le_pow_right (by omega) hP))
theorem maskL_ltP {P : Nat} {xs : List Int} (h : ∀ x ∈ xs, 0 ≤ x ∧ x < (P : Int)) : maskL xs < 2 ^ P := maskL_lt P xs (fun x hx => by have := h x hx; omega)
/-- The numbers of a set are one. -/
theorem bitsTo_sorted (M n : Nat) : (bitsTo M n).Pairwise (· < ·) := by
  induction n with
  | zero => simp [bitsTo]
  | succ n ih =>
    rw [bitsTo, List.pairwise_append]
    refine ⟨ih, by split <;> simp, fun a ha b hb => ?_⟩
    obtain ⟨i, rfl, hi, _⟩ := (mem_bitsTo M n a).1 ha
    split at hb
    · simp at hb; omega
    · cases hb
theorem isSetFrom_iff (lo e : Int) (xs : List Int) : isSetFrom lo e xs = true ↔ xs.Pairwise (· < ·) ∧ ∀ x ∈ xs, lo ≤ x ∧ x < e := by
  induction xs generalizing lo with
  | nil => simp [isSetFrom]
  | cons x t ih =>
    rw [isSetFrom]
    split
    · rename_i h
      simp only [Bool.false_eq_true, false_iff, not_and]
      intro _ hh
      have := hh x (by simp)
      omega
    · rename_i h
      rw [ih, List.pairwise_cons]
      constructor
      · rintro ⟨h1, h2⟩
        refine ⟨⟨fun y hy => by have := h2 y hy; omega, h1⟩, fun y hy => ?_⟩
        rcases List.mem_cons.1 hy with rfl | hy
        · omega
        · have := h2 y hy; omega
      · rintro ⟨⟨h1, h2⟩, h3⟩
        exact ⟨h2, fun y hy => by have := h1 y hy; have := h3 y (by simp [hy]); omega⟩
theorem bitsTo_isSet (M n : Nat) : isSetFrom 0 (n : Int) (bitsTo M n) = true := by
  rw [isSetFrom_iff]
  exact ⟨bitsTo_sorted M n, fun x hx => by obtain ⟨i, rfl, hi, _⟩ := (mem_bitsTo M n x).1 hx; omega⟩
theorem maskL_bitsTo (M n : Nat) (h : M < 2 ^ n) : maskL (bitsTo M n) = M := by
  apply Nat.eq_of_testBit_eq
  intro i
  rw [testBit_maskL, Bool.eq_iff_iff, decide_eq_true_iff]
  constructor
  · rintro ⟨x, hx, rfl⟩
    obtain ⟨j, rfl, _, hb⟩ := (mem_bitsTo M n x).1 hx
    simpa using hb
  · intro hb
    exact ⟨(i : Int), (mem_bitsTo M n _).2 ⟨i, rfl, bit_lt h hb, hb⟩, by simp⟩
def closureL (P : Int) (its : List ItemL) (rls : List RuleL) (props : List Int) : List Int × Int :=
  if validB P its rls ≠ 0 then ([], validB P its rls) else if isSetFrom 0 P props then (bitsTo (closL rls (maskL props)) 64, 0) else ([], 1)
def followsL (P : Int) (its : List ItemL) (rls : List RuleL) (r : RuleL) : Bool × Int :=
  if validB P its rls ≠ 0 then (false, validB P its rls) else if ruleB P r then ((closL rls (maskL r.1)).testBit r.2.toNat, 0) else (false, 1)
theorem closureL_len (P : Int) (its : List ItemL) (rls : List RuleL) (ps : List Int) : (closureL P its rls ps).1.length ≤ 64 := by
  unfold closureL
  split
  · simp
  · split
    · exact bitsTo_len _ _
    · simp
theorem closureL_bd (P : Int) (its : List ItemL) (rls : List RuleL) (ps : List Int) : ∀ x ∈ (closureL P its rls ps).1, 0 ≤ x ∧ x < 64 := by
  unfold closureL
  split
  · intro x hx; cases hx
  · split
    · intro x hx
      obtain ⟨i, rfl, hi, _⟩ := (mem_bitsTo _ _ x).1 hx
      omega
    · intro x hx; cases hx
theorem closureL_ok {P : Int} {its : List ItemL} {rls : List RuleL} {ps : List Int} (h : (closureL P its rls ps).2 = 0) : ∃ p : Nat, P = p ∧ p ≤ 10 ∧ validB P its rls = 0 ∧ isSetFrom 0 P ps = true ∧ RulesP p rls ∧ maskL ps < 2 ^ p ∧ closureL P its rls ps = (bitsTo (closL rls (maskL ps)) p, 0) := by
  by_cases hz : validB P its rls = 0
  · cases hs : isSetFrom 0 P ps with
    | true =>
      obtain ⟨v0, v1, v2, v3, v4, v5⟩ := validB_ok hz
      obtain ⟨p, rfl⟩ := Int.eq_ofNat_of_zero_le v0
      have hp : p ≤ 10 := by omega
      have hm := maskL_ltP (isSetFrom_ge _ _ _ hs)
      refine ⟨p, rfl, hp, hz, rfl, rulesP_of v5, hm, ?_⟩
      rw [closureL, if_neg (by simp [hz]), if_pos hs, bitsTo_P (closL_ltP (rulesP_of v5) hp _ hm) (by omega)]
    | false => rw [closureL, if_neg (by simp [hz]), if_neg (by simp [hs])] at h; simp at h
  · rw [closureL, if_pos hz] at h; exact absurd h hz
theorem closureL_again {P : Int} {its : List ItemL} {rls : List RuleL} {ps : List Int} (h : (closureL P its rls ps).2 = 0) : closureL P its rls (closureL P its rls ps).1 = closureL P its rls ps := by
  obtain ⟨p, rfl, hp, hz, hs, hR, hm, he⟩ := closureL_ok h
  have hlt := closL_ltP hR hp _ hm
  have hm10 : maskL ps < 2 ^ 10 := Nat.lt_of_lt_of_le hm (Nat.pow_le_pow_right (by omega) hp)
  rw [he]
  dsimp only
  rw [closureL, if_neg (by simp [hz]), if_pos (bitsTo_isSet _ _), maskL_bitsTo _ _ hlt, closL_idem rls (hR.ok hp) _ hm10, bitsTo_P hlt (by omega)]
theorem closureL_has {P : Int} {its : List ItemL} {rls : List RuleL} {ps : List Int} (h : (closureL P its rls ps).2 = 0) : ∀ x ∈ ps, memB x (closureL P its rls ps).1 = true := by
  obtain ⟨p, rfl, hp, hz, hs, hR, hm, he⟩ := closureL_ok h
  have hm10 : maskL ps < 2 ^ 10 := Nat.lt_of_lt_of_le hm (Nat.pow_le_pow_right (by omega) hp)
  intro x hx
  have hb := isSetFrom_ge _ _ _ hs x hx
  rw [he, memB, decide_eq_true_iff]
  obtain ⟨i, rfl⟩ := Int.eq_ofNat_of_zero_le hb.1
  refine (mem_bitsTo _ _ _).2 ⟨i, rfl, by omega, (closL_spec rls (hR.ok hp) _ hm10).2.1 i ?_⟩
  rw [testBit_maskL, decide_eq_true_iff]
  exact ⟨_, hx, by simp⟩
end Go.Proofs.Ytdgleicpcjfnoaa
