/- Sets of small numbers as bits of a number: plain functions. -/
set_option linter.unusedVariables false
namespace Go.Proofs.Ytdgleicpcjfnoaa

def maskFrom (m : Nat) (l : List Int) : Nat := l.foldl (fun m x => m ||| 2 ^ x.toNat) m
def maskL (l : List Int) : Nat := maskFrom 0 l
/-- The places of the bits that are set, below n. -/
def bitsTo (M : Nat) : Nat → List Int
  | 0 => []
  | n + 1 => bitsTo M n ++ (if M.testBit n then [(n : Int)] else [])

theorem maskFrom_cons (m : Nat) (x : Int) (l : List Int) : maskFrom m (x :: l) = maskFrom (m ||| 2 ^ x.toNat) l := rfl
theorem maskFrom_snoc (m : Nat) (x : Int) (l : List Int) : maskFrom m (l ++ [x]) = maskFrom m l ||| 2 ^ x.toNat := by simp [maskFrom, List.foldl_append]
theorem maskL_take (l : List Int) (k : Nat) (h : k < l.length) : maskL (l.take (k + 1)) = maskL (l.take k) ||| 2 ^ (l[k]?.getD 0).toNat := by
  rw [List.take_succ_eq_append_getElem h, maskL, maskFrom_snoc, List.getElem?_eq_getElem h]; rfl
theorem testBit_maskFrom (m : Nat) (l : List Int) (i : Nat) : (maskFrom m l).testBit i = (m.testBit i || decide (∃ x ∈ l, x.toNat = i)) := by
  induction l generalizing m with
  | nil => simp [maskFrom]
  | cons x t ih =>
    rw [maskFrom_cons, ih, Nat.testBit_or, Nat.testBit_two_pow, Bool.or_assoc]
    congr 1
    rw [← Bool.decide_or, decide_eq_decide]
    simp
theorem testBit_maskL (l : List Int) (i : Nat) : (maskL l).testBit i = decide (∃ x ∈ l, x.toNat = i) := by rw [maskL, testBit_maskFrom]; simp
theorem maskFrom_lt (n m : Nat) (l : List Int) (hm : m < 2 ^ n) (h : ∀ x ∈ l, x.toNat < n) : maskFrom m l < 2 ^ n := by
  induction l generalizing m with
  | nil => exact hm
  | cons x t ih =>
    rw [maskFrom_cons]
    refine ih _ (Nat.or_lt_two_pow hm (Nat.pow_lt_pow_right (by omega) (h x (by simp)))) (fun y hy => h y (by simp [hy]))
theorem maskL_lt (n : Nat) (l : List Int) (h : ∀ x ∈ l, x.toNat < n) : maskL l < 2 ^ n := maskFrom_lt n 0 l (Nat.two_pow_pos n) h

theorem bitsTo_len (M n : Nat) : (bitsTo M n).length ≤ n := by
  induction n with
  | zero => simp [bitsTo]
  | succ n ih => rw [bitsTo]; split <;> simp <;> omega
theorem mem_bitsTo (M n : Nat) (x : Int) : x ∈ bitsTo M n ↔ ∃ i : Nat, x = i ∧ i < n ∧ M.testBit i = true := by
  induction n with
  | zero => simp [bitsTo]
  | succ n ih =>
    rw [bitsTo, List.mem_append, ih]
    constructor
    · rintro (⟨i, rfl, hi, hb⟩ | h)
      · exact ⟨i, rfl, by omega, hb⟩
      · split at h
        · rename_i hb; simp at h; exact ⟨n, h, by omega, hb⟩
        · cases h
    · rintro ⟨i, rfl, hi, hb⟩
      by_cases e : i = n
      · subst e; right; rw [if_pos hb]; simp
      · left; exact ⟨i, rfl, by omega, hb⟩
theorem bitsTo_more (M n k : Nat) (h : M < 2 ^ n) : bitsTo M (n + k) = bitsTo M n := by
  induction k with
  | zero => rfl
  | succ k ih =>
    rw [← Nat.add_assoc, bitsTo, ih, if_neg]
    · simp
    · rw [Nat.testBit_lt_two_pow (Nat.lt_of_lt_of_le h (Nat.pow_le_pow_right (by omega) (by omega)))]; simp
theorem bitsTo_eq (M n m : Nat) (h : M < 2 ^ n) (h' : M < 2 ^ m) : bitsTo M n = bitsTo M m := by
  rcases Nat.le_total n m with hh | hh
  · obtain ⟨k, rfl⟩ := Nat.exists_eq_add_of_le hh
    exact (bitsTo_more M n k h).symm
  · obtain ⟨k, rfl⟩ := Nat.exists_eq_add_of_le hh
    exact bitsTo_more M m k h'
theorem bit_test (M x : Nat) : (((M / 2 ^ x % 2 : Nat) : Int) == 1) = M.testBit x := by
  rw [Nat.testBit_eq_decide_div_mod_eq]
  generalize M / 2 ^ x % 2 = q
  show decide ((q : Int) = 1) = _
  rw [decide_eq_decide]
  omega
theorem two_pow_lt {x n : Nat} (h : x < n) : 2 ^ x < 2 ^ n := Nat.pow_lt_pow_right (by omega) h

/-- a and not b is nothing exactly if each bit of a is one of b. -/
theorem andNot_zero (a b n : Nat) (ha : a < 2 ^ n) (hb : b < 2 ^ n) : (a &&& (2 ^ n - 1 - b) = 0) ↔ ∀ i, a.testBit i = true → b.testBit i = true := by
  constructor
  · intro h i hi
    have hin : i < n := Nat.lt_of_not_le fun hh => by
      rw [Nat.testBit_lt_two_pow (Nat.lt_of_lt_of_le ha (Nat.pow_le_pow_right (by omega) hh))] at hi; cases hi
    have := congrArg (fun z => z.testBit i) h
    simp only [Nat.testBit_and, hi, Nat.zero_testBit, Bool.true_and] at this
    rw [show 2 ^ n - 1 - b = 2 ^ n - (b + 1) by omega, Nat.testBit_two_pow_sub_succ hb] at this
    simpa [hin] using this
  · intro h
    refine Nat.eq_of_testBit_eq fun i => ?_
    rw [Nat.testBit_and, Nat.zero_testBit]
    cases ha' : a.testBit i with
    | false => rfl
    | true =>
      have := h i ha'
      rw [show 2 ^ n - 1 - b = 2 ^ n - (b + 1) by omega, Nat.testBit_two_pow_sub_succ hb, this]; simp

end Go.Proofs.Ytdgleicpcjfnoaa
