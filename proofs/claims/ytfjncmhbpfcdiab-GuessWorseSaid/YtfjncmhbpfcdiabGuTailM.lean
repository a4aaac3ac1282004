/- Sequences of wins and losses: plain functions. -/
set_option linter.unusedVariables false
namespace Go.Proofs.Ytfjncmhbpfcdiab

/-- How many sequences of n have k wins. -/
def chs : Nat → Nat → Nat
  | _, 0 => 1
  | 0, _ + 1 => 0
  | n + 1, k + 1 => chs n k + chs n (k + 1)
theorem chs_zero (n : Nat) : chs n 0 = 1 := by cases n <;> rfl
theorem chs_out (n k : Nat) (h : n < k) : chs n k = 0 := by
  induction n generalizing k with
  | zero => cases k with
    | zero => omega
    | succ k => rfl
  | succ n ih => cases k with
    | zero => omega
    | succ k => rw [chs, ih k (by omega), ih (k + 1) (by omega)]
theorem chs_next (n k : Nat) : chs n k * (n - k) = chs n (k + 1) * (k + 1) := by
  induction n generalizing k with
  | zero => rw [chs]; simp
  | succ n ih =>
    cases k with
    | zero =>
      have := ih 0
      rw [chs_zero] at this ⊢
      rw [chs, chs_zero]; omega
    | succ k =>
      rw [chs, show chs (n + 1) (k + 1 + 1) = chs n (k + 1) + chs n (k + 1 + 1) from rfl]
      rcases Nat.lt_or_ge k n with hh | hh
      · have h1 := ih k
        have h2 := ih (k + 1)
        rw [show n + 1 - (k + 1) = n - k by omega, Nat.add_mul, Nat.add_mul, h1, show k + 1 + 1 = k + 2 from rfl, show k + 1 + 1 = k + 2 from rfl] at *
        rw [← h2]
        have h3 : chs n (k + 1) * (n - k) = chs n (k + 1) * (n - (k + 1)) + chs n (k + 1) := by
          rw [show n - k = n - (k + 1) + 1 by omega, Nat.mul_add, Nat.mul_one]
        have h4 : chs n (k + 1) * (k + 2) = chs n (k + 1) * (k + 1) + chs n (k + 1) := by
          rw [show k + 2 = k + 1 + 1 from rfl, Nat.mul_add, Nat.mul_one]
        omega
      · rw [chs_out n (k + 1) (by omega), chs_out n (k + 1 + 1) (by omega), show n + 1 - (k + 1) = 0 by omega]; simp
/-- The sum of those with at least w wins, below m. -/
def tailTo (n w : Nat) : Nat → Nat
  | 0 => 0
  | m + 1 => tailTo n w m + if w ≤ m then chs n m else 0
def tailN (n w : Nat) : Nat := tailTo n w (n + 1)
theorem tailTo_rec (n w m : Nat) : tailTo (n + 1) (w + 1) (m + 1) = tailTo n w m + tailTo n (w + 1) (m + 1) := by
  induction m with
  | zero => simp [tailTo]
  | succ m ih =>
    have e1 : tailTo (n + 1) (w + 1) (m + 1 + 1) = tailTo (n + 1) (w + 1) (m + 1) + if w + 1 ≤ m + 1 then chs (n + 1) (m + 1) else 0 := rfl
    have e2 : tailTo n w (m + 1) = tailTo n w m + if w ≤ m then chs n m else 0 := rfl
    have e3 : tailTo n (w + 1) (m + 1 + 1) = tailTo n (w + 1) (m + 1) + if w + 1 ≤ m + 1 then chs n (m + 1) else 0 := rfl
    have e4 : chs (n + 1) (m + 1) = chs n m + chs n (m + 1) := rfl
    rw [e1, e2, e3, ih]
    by_cases h : w ≤ m
    · rw [if_pos (show w + 1 ≤ m + 1 by omega), if_pos h, if_pos (show w + 1 ≤ m + 1 by omega), e4]; omega
    · rw [if_neg (show ¬ w + 1 ≤ m + 1 by omega), if_neg h, if_neg (show ¬ w + 1 ≤ m + 1 by omega)]; omega
theorem tailTo_out (n w m : Nat) (h : n + 1 ≤ m) : tailTo n w m = tailN n w := by
  induction h with
  | refl => rfl
  | step h ih =>
    rename_i m
    rw [tailTo, ih]
    have : n < m := h
    split
    · rw [chs_out n m this]; rfl
    · rfl
/-- Each more trial is a win or a loss. -/
theorem tailN_rec (n w : Nat) : tailN (n + 1) (w + 1) = tailN n w + tailN n (w + 1) := by
  unfold tailN
  rw [tailTo_rec, tailTo_out n (w + 1) (n + 1 + 1) (by omega)]
  rfl
theorem tailTo_anti (n w v m : Nat) (h : w ≤ v) : tailTo n v m ≤ tailTo n w m := by
  induction m with
  | zero => exact Nat.le_refl _
  | succ m ih => rw [tailTo, tailTo]; split <;> split <;> omega
theorem tailN_anti (n w v : Nat) (h : w ≤ v) : tailN n v ≤ tailN n w := tailTo_anti n w v _ h
theorem tailN_all (n : Nat) : tailN n 0 = 2 ^ n := by
  induction n with
  | zero => rfl
  | succ n ih =>
    have h : ∀ m, tailTo (n + 1) 0 (m + 1) = tailTo n 0 m + tailTo n 0 (m + 1) := by
      intro m
      induction m with
      | zero => simp [tailTo, chs_zero]
      | succ m ih =>
        have e1 : tailTo (n + 1) 0 (m + 1 + 1) = tailTo (n + 1) 0 (m + 1) + if 0 ≤ m + 1 then chs (n + 1) (m + 1) else 0 := rfl
        have e2 : tailTo n 0 (m + 1) = tailTo n 0 m + if 0 ≤ m then chs n m else 0 := rfl
        have e3 : tailTo n 0 (m + 1 + 1) = tailTo n 0 (m + 1) + if 0 ≤ m + 1 then chs n (m + 1) else 0 := rfl
        have e4 : chs (n + 1) (m + 1) = chs n m + chs n (m + 1) := rfl
        rw [if_pos (Nat.zero_le _)] at e1 e2 e3
        rw [e1, ih, e3, e4]; omega
    unfold tailN at ih ⊢
    rw [h, tailTo_out n 0 (n + 1 + 1) (by omega)]
    unfold tailN
    rw [ih, Nat.pow_succ]; omega
theorem tailTo_le (n w m : Nat) : tailTo n w m ≤ 2 ^ n := by
  refine Nat.le_trans (tailTo_anti n 0 w m (Nat.zero_le _)) ?_
  have : ∀ a b, a ≤ b → tailTo n 0 a ≤ tailTo n 0 b := by
    intro a b h
    induction h with
    | refl => exact Nat.le_refl _
    | step h ih => rw [tailTo]; omega
  rw [← tailN_all]
  rcases Nat.lt_or_ge m (n + 1) with hh | hh
  · exact this m (n + 1) (by omega)
  · rw [tailTo_out n 0 m hh]; exact Nat.le_refl _
theorem tailN_le (n w : Nat) : tailN n w ≤ 2 ^ n := tailTo_le n w _
theorem chs_le (n k : Nat) : chs n k ≤ 2 ^ n := by
  have h := tailTo_le n 0 (k + 1)
  rw [tailTo, if_pos (Nat.zero_le _)] at h
  omega
theorem tailN_last (n : Nat) : tailN n n = 1 := by
  have key : ∀ m, m ≤ n → tailTo n n m = 0 := by
    intro m
    induction m with
    | zero => intro _; rfl
    | succ m ih => intro h; rw [tailTo, ih (by omega), if_neg (by omega)]
  have hc : ∀ n, chs n n = 1 := by
    intro n
    induction n with
    | zero => rfl
    | succ n ih => rw [chs, ih, chs_out n (n + 1) (by omega)]
  unfold tailN
  rw [tailTo, key n (Nat.le_refl _), if_pos (Nat.le_refl _), hc]
theorem tailN_twice (n w : Nat) : tailN (n + 1) (w + 1) ≤ 2 * tailN n w := by
  rw [tailN_rec]
  have := tailN_anti n w (w + 1) (by omega)
  omega
def tailV (t w : Int) : Int × Int := if 0 ≤ t ∧ t ≤ 40 ∧ 0 ≤ w ∧ w ≤ t then ((tailN t.toNat w.toNat : Nat), 0) else (0, 1)
/-- The row of a number of trials, and the sum of its end: as the document has it. -/
def rowN (n : Nat) : Nat → List Int
  | 0 => []
  | k + 1 => rowN n k ++ [(chs n k : Int)]
theorem rowN_len (n k : Nat) : (rowN n k).length = k := by
  induction k with
  | zero => rfl
  | succ k ih => rw [rowN, List.length_append, ih]; rfl
theorem rowN_at (n k i : Nat) (h : i < k) : (rowN n k)[i]?.getD 0 = (chs n i : Int) := by
  induction k with
  | zero => omega
  | succ k ih =>
    rw [rowN]
    rcases Nat.lt_or_ge i k with hh | hh
    · rw [List.getElem?_append_left (by rw [rowN_len]; exact hh)]; exact ih hh
    · obtain rfl : i = k := by omega
      rw [List.getElem?_append_right (by rw [rowN_len]; exact Nat.le_refl _), rowN_len]; simp
end Go.Proofs.Ytfjncmhbpfcdiab
