/- Games of advisers: plain functions. -/
set_option linter.unusedVariables false
namespace Go.Proofs.Ytfjncmhbpfcdiab

def cinB (x lo hi : Int) : Bool := decide (lo ≤ x ∧ x ≤ hi)
/-- A round: its pieces of advice, and what came. -/
abbrev Rnd := List Bool × Bool
def rAt (g : List Rnd) (i : Nat) : Rnd := g[i]?.getD ([], false)
def bAt (l : List Bool) (i : Nat) : Bool := l[i]?.getD false
def advs (g : List Rnd) : Nat := (rAt g 0).1.length
def rndOk (n : Nat) (r : Rnd) : Bool := decide (r.1.length = n ∧ 1 ≤ r.1.length ∧ r.1.length ≤ 8)
def roundsOk (n : Nat) : List Rnd → Bool
  | [] => true
  | r :: t => rndOk n r && roundsOk n t
def gameE (g : List Rnd) : Int := if 24 < g.length then 4 else if roundsOk (advs g) g = true then 0 else 1
/-- A game that has rounds. -/
def gameN (g : List Rnd) : Int := if gameE g = 0 then (if g.length = 0 then 5 else 0) else gameE g
theorem roundsOk_drop (n : Nat) (g : List Rnd) (k : Nat) (h : k < g.length) : roundsOk n (g.drop k) = (rndOk n (rAt g k) && roundsOk n (g.drop (k + 1))) := by
  rw [List.drop_eq_getElem_cons h, roundsOk]; simp [rAt, h]
theorem roundsOk_at {n : Nat} {g : List Rnd} (h : roundsOk n g = true) (i : Nat) (hi : i < g.length) : (rAt g i).1.length = n ∧ 1 ≤ n ∧ n ≤ 8 := by
  induction g generalizing i with
  | nil => simp at hi
  | cons r t ih =>
    rw [roundsOk, Bool.and_eq_true] at h
    cases i with
    | zero => have := h.1; simp [rndOk] at this; simp [rAt]; omega
    | succ i => have := ih h.2 i (by simpa using hi); simpa [rAt] using this
theorem roundsOk_of {n : Nat} {g : List Rnd} (h : ∀ i, i < g.length → (rAt g i).1.length = n ∧ 1 ≤ n ∧ n ≤ 8) : roundsOk n g = true := by
  induction g with
  | nil => rfl
  | cons r t ih =>
    rw [roundsOk, Bool.and_eq_true]
    refine ⟨?_, ih fun i hi => by simpa [rAt] using h (i + 1) (by simpa using hi)⟩
    have := h 0 (by simp)
    simp [rAt] at this
    simp [rndOk]; omega
/-- What a game is whose error is none. -/
structure GameOk (g : List Rnd) : Prop where
  len : g.length ≤ 24
  adv : ∀ i, i < g.length → (rAt g i).1.length = advs g ∧ 1 ≤ advs g ∧ advs g ≤ 8
theorem gameE_ok {g : List Rnd} (h : gameE g = 0) : GameOk g := by
  unfold gameE at h
  by_cases h1 : 24 < g.length
  · rw [if_pos h1] at h; cases h
  · rw [if_neg h1] at h
    by_cases h2 : roundsOk (advs g) g = true
    · exact ⟨by omega, roundsOk_at h2⟩
    · rw [if_neg h2] at h; cases h
theorem GameOk.e {g : List Rnd} (h : GameOk g) : gameE g = 0 := by
  unfold gameE
  rw [if_neg (by have := h.len; omega), if_pos (roundsOk_of h.adv)]
theorem gameE_cases (g : List Rnd) : gameE g = 0 ∨ gameE g = 1 ∨ gameE g = 4 := by
  unfold gameE; split
  · exact .inr (.inr rfl)
  · split
    · exact .inl rfl
    · exact .inr (.inl rfl)
theorem gameN_cases (g : List Rnd) : gameN g = 0 ∨ gameN g = 1 ∨ gameN g = 4 ∨ gameN g = 5 := by
  unfold gameN
  rcases gameE_cases g with h | h | h <;> rw [h]
  · split
    · split
      · exact .inr (.inr (.inr rfl))
      · exact .inl rfl
    · rename_i h; exact absurd rfl h
  · exact .inr (.inl rfl)
  · exact .inr (.inr (.inl rfl))
theorem gameN_ok {g : List Rnd} (h : gameN g = 0) : gameE g = 0 ∧ 0 < g.length := by
  unfold gameN at h
  by_cases h1 : gameE g = 0
  · rw [if_pos h1] at h
    by_cases h2 : g.length = 0
    · rw [if_pos h2] at h; cases h
    · exact ⟨h1, by omega⟩
  · rw [if_neg h1] at h; exact absurd h h1
theorem gameN_of {g : List Rnd} (h : gameE g = 0) (h2 : 0 < g.length) : gameN g = 0 := by
  unfold gameN; rw [if_pos h, if_neg (by omega)]
theorem rAt_take (g : List Rnd) (k i : Nat) (h : i < k) : rAt (g.take k) i = rAt g i := by
  unfold rAt; rw [List.getElem?_take_of_lt h]
theorem advs_take (g : List Rnd) (k : Nat) (h : 0 < k) : advs (g.take k) = advs g := by unfold advs; rw [rAt_take g k 0 h]
theorem GameOk.take {g : List Rnd} (h : GameOk g) (k : Nat) (hk : k ≤ g.length) : GameOk (g.take k) := by
  have hl : (g.take k).length = k := by simp; omega
  refine ⟨by have := h.len; omega, fun i hi => ?_⟩
  rw [rAt_take g k i (by omega), advs_take g k (by omega)]
  exact h.adv i (by omega)

/-- Whether an adviser is wrong in a round. -/
def bad (r : Rnd) (a : Nat) : Bool := match r.1[a]? with
  | some x => x != r.2
  | none => false
theorem bad_at (r : Rnd) (a : Nat) (h : a < r.1.length) : bad r a = (bAt r.1 a != r.2) := by
  unfold bad bAt; rw [List.getElem?_eq_getElem h]; rfl
theorem bad_out (r : Rnd) (a : Nat) (h : r.1.length ≤ a) : bad r a = false := by
  unfold bad; rw [List.getElem?_eq_none h]
/-- How often an adviser was wrong in the first k rounds. -/
def wrongN (g : List Rnd) (a : Nat) : Nat → Nat
  | 0 => 0
  | k + 1 => wrongN g a k + if bad (rAt g k) a = true then 1 else 0
theorem wrongN_le (g : List Rnd) (a k : Nat) : wrongN g a k ≤ k := by
  induction k with
  | zero => exact Nat.le_refl _
  | succ k ih => rw [wrongN]; split <;> omega
theorem wrongN_take (g : List Rnd) (a k n : Nat) (h : k ≤ n) : wrongN (g.take n) a k = wrongN g a k := by
  induction k with
  | zero => rfl
  | succ k ih => rw [wrongN, wrongN, ih (by omega), rAt_take g n k (by omega)]
theorem wrongN_mono (g : List Rnd) (a : Nat) {k n : Nat} (h : k ≤ n) : wrongN g a k ≤ wrongN g a n := by
  induction h with
  | refl => exact Nat.le_refl _
  | step h ih => rw [wrongN]; split <;> omega
/-- The weight of an adviser after k rounds, if all begin with f. -/
def wtN (f : Nat) (g : List Rnd) (a k : Nat) : Nat := f / 2 ^ wrongN g a k
theorem wtN_zero (f : Nat) (g : List Rnd) (a : Nat) : wtN f g a 0 = f := by simp [wtN, wrongN]
theorem wtN_succ (f : Nat) (g : List Rnd) (a k : Nat) : wtN f g a (k + 1) = if bad (rAt g k) a = true then wtN f g a k / 2 else wtN f g a k := by
  unfold wtN; rw [wrongN]
  split
  · rw [Nat.pow_succ, Nat.div_div_eq_div_mul]
  · rw [Nat.add_zero]
theorem wtN_le (f : Nat) (g : List Rnd) (a k : Nat) : wtN f g a k ≤ f := Nat.div_le_self _ _
theorem wtN_full (g : List Rnd) (a k : Nat) (h : k ≤ 24) : wtN 16777216 g a k = 2 ^ (24 - wrongN g a k) := by
  have := wrongN_le g a k
  unfold wtN
  rw [show 16777216 = 2 ^ (24 - wrongN g a k) * 2 ^ wrongN g a k by rw [← Nat.pow_add, show 24 - wrongN g a k + wrongN g a k = 24 by omega]]
  rw [Nat.mul_div_cancel _ (Nat.pow_pos (by omega))]
theorem wtN_take (f : Nat) (g : List Rnd) (a k n : Nat) (h : k ≤ n) : wtN f (g.take n) a k = wtN f g a k := by
  unfold wtN; rw [wrongN_take g a k n h]
/-- By how much true outweighs false in the first k pieces of advice. -/
def surp (w : Nat → Nat) (l : List Bool) : Nat → Int
  | 0 => 0
  | k + 1 => surp w l k + if bAt l k = true then (w k : Int) else -(w k : Int)
theorem surp_bd (w : Nat → Nat) (l : List Bool) (f : Nat) (h : ∀ a, w a ≤ f) (k : Nat) : -((f : Int) * k) ≤ surp w l k ∧ surp w l k ≤ (f : Int) * k := by
  induction k with
  | zero => simp [surp]
  | succ k ih =>
    have := h k
    rw [surp, Int.natCast_succ, Int.mul_add, Int.mul_one]
    split <;> omega
theorem surp_congr (w v : Nat → Nat) (l : List Bool) (k : Nat) (h : ∀ a, a < k → w a = v a) : surp w l k = surp v l k := by
  induction k with
  | zero => rfl
  | succ k ih => rw [surp, surp, ih fun a ha => h a (by omega), h k (by omega)]
/-- What is said behind the first k rounds. -/
def sayN (f : Nat) (g : List Rnd) (l : List Bool) (k : Nat) : Bool := decide (0 < surp (fun a => wtN f g a k) l l.length)
def saidN (f : Nat) (g : List Rnd) (k : Nat) : Bool := sayN f g (rAt g k).1 k
def saidL (f : Nat) (g : List Rnd) : Nat → List Bool
  | 0 => []
  | k + 1 => saidL f g k ++ [saidN f g k]
theorem saidL_len (f : Nat) (g : List Rnd) (k : Nat) : (saidL f g k).length = k := by
  induction k with
  | zero => rfl
  | succ k ih => rw [saidL, List.length_append, ih]; rfl
theorem saidL_at (f : Nat) (g : List Rnd) (n k : Nat) (h : k < n) : bAt (saidL f g n) k = saidN f g k := by
  induction n with
  | zero => omega
  | succ n ih =>
    rw [saidL]
    unfold bAt
    rcases Nat.lt_or_ge k n with hh | hh
    · rw [List.getElem?_append_left (by rw [saidL_len]; exact hh)]; exact ih hh
    · obtain rfl : k = n := by omega
      rw [List.getElem?_append_right (by rw [saidL_len]; exact Nat.le_refl _), saidL_len]; simp
theorem sayN_take (f : Nat) (g : List Rnd) (l : List Bool) (k n : Nat) (h : k ≤ n) : sayN f (g.take n) l k = sayN f g l k := by
  unfold sayN; rw [surp_congr _ _ l _ fun a _ => wtN_take f g a k n h]
theorem saidN_take (f : Nat) (g : List Rnd) (k n : Nat) (h : k < n) : saidN f (g.take n) k = saidN f g k := by
  unfold saidN; rw [sayN_take f g _ k n (by omega), rAt_take g n k h]
/-- How often something else came than was said, in the first k rounds. -/
def errN (f : Nat) (g : List Rnd) : Nat → Nat
  | 0 => 0
  | k + 1 => errN f g k + if saidN f g k = (rAt g k).2 then 0 else 1
theorem errN_le (f : Nat) (g : List Rnd) (k : Nat) : errN f g k ≤ k := by
  induction k with
  | zero => exact Nat.le_refl _
  | succ k ih => rw [errN]; split <;> omega
theorem errN_take (f : Nat) (g : List Rnd) (k n : Nat) (h : k ≤ n) : errN f (g.take n) k = errN f g k := by
  induction k with
  | zero => rfl
  | succ k ih => rw [errN, errN, ih (by omega), saidN_take f g k n (by omega), rAt_take g n k (by omega)]
/-- The sum of the weights. -/
def sumW (w : Nat → Nat) : Nat → Nat
  | 0 => 0
  | k + 1 => sumW w k + w k
theorem sumW_const (f n : Nat) : sumW (fun _ => f) n = n * f := by
  induction n with
  | zero => simp [sumW]
  | succ n ih => rw [sumW, ih, Nat.succ_mul]
theorem sumW_at (w : Nat → Nat) (n a : Nat) (h : a < n) : w a ≤ sumW w n := by
  induction n with
  | zero => omega
  | succ n ih =>
    rw [sumW]
    rcases Nat.lt_or_ge a n with hh | hh
    · have := ih hh; omega
    · obtain rfl : a = n := by omega
      omega
/-- The weight of those who are wrong, and of the others. -/
theorem surp_split (w : Nat → Nat) (r : Rnd) (n : Nat) (h : n ≤ r.1.length) :
    ∃ B : Nat, B ≤ sumW w n ∧ (r.2 = true → surp w r.1 n = (sumW w n : Int) - 2 * B) ∧ (r.2 = false → surp w r.1 n = 2 * (B : Int) - sumW w n) ∧
      (∀ v : Nat → Nat, (∀ a, a < n → v a = if bad r a = true then w a / 2 else w a) → 2 * sumW v n + B ≤ 2 * sumW w n) := by
  induction n with
  | zero => exact ⟨0, Nat.le_refl _, fun _ => by simp [surp, sumW], fun _ => by simp [surp, sumW], fun v hv => by simp [sumW]⟩
  | succ n ih =>
    obtain ⟨B, h0, h1, h2, h3⟩ := ih (by omega)
    have hb := bad_at r n (by omega)
    cases hbd : bad r n with
    | true =>
      refine ⟨B + w n, by rw [sumW]; omega, fun hr => ?_, fun hr => ?_, fun v hv => ?_⟩
      · have : bAt r.1 n = false := by rw [hbd, hr] at hb; simpa using hb.symm
        rw [surp, sumW, this, h1 hr]; simp; omega
      · have : bAt r.1 n = true := by rw [hbd, hr] at hb; simpa using hb.symm
        rw [surp, sumW, this, h2 hr]; simp; omega
      · have e := hv n (by omega)
        rw [hbd, if_pos rfl] at e
        have := h3 v fun a ha => hv a (by omega)
        rw [sumW, sumW, e]; omega
    | false =>
      refine ⟨B, by rw [sumW]; omega, fun hr => ?_, fun hr => ?_, fun v hv => ?_⟩
      · have : bAt r.1 n = true := by rw [hbd, hr] at hb; simpa using hb.symm
        rw [surp, sumW, this, h1 hr]; simp; omega
      · have : bAt r.1 n = false := by rw [hbd, hr] at hb; simpa using hb.symm
        rw [surp, sumW, this, h2 hr]; simp; omega
      · have e := hv n (by omega)
        rw [hbd] at e
        simp at e
        have := h3 v fun a ha => hv a (by omega)
        rw [sumW, sumW, e]; omega
/-- Who errs loses at least half of the weight's halves. -/
theorem err_step (f : Nat) (g : List Rnd) (k n : Nat) (h : (rAt g k).1.length = n) :
    sumW (fun a => wtN f g a (k + 1)) n ≤ sumW (fun a => wtN f g a k) n ∧ (saidN f g k ≠ (rAt g k).2 → 4 * sumW (fun a => wtN f g a (k + 1)) n ≤ 3 * sumW (fun a => wtN f g a k) n) := by
  obtain ⟨B, h0, h1, h2, h3⟩ := surp_split (fun a => wtN f g a k) (rAt g k) n (by omega)
  have h4 := h3 (fun a => wtN f g a (k + 1)) fun a _ => wtN_succ f g a k
  refine ⟨by omega, fun he => ?_⟩
  unfold saidN sayN at he
  rw [h] at he
  cases hr : (rAt g k).2 with
  | true =>
    rw [h1 hr, hr] at he
    simp at he
    omega
  | false =>
    rw [h2 hr, hr] at he
    simp at he
    omega
theorem err_bound (f : Nat) (g : List Rnd) (n k : Nat) (h : ∀ i, i < k → (rAt g i).1.length = n) : 4 ^ errN f g k * sumW (fun a => wtN f g a k) n ≤ 3 ^ errN f g k * (n * f) := by
  induction k with
  | zero =>
    rw [errN]
    have : (fun a => wtN f g a 0) = fun _ => f := funext fun a => wtN_zero f g a
    rw [this, sumW_const]; simp
  | succ k ih =>
    have ih := ih fun i hi => h i (by omega)
    obtain ⟨s1, s2⟩ := err_step f g k n (h k (by omega))
    rw [errN]
    by_cases he : saidN f g k = (rAt g k).2
    · rw [if_pos he, Nat.add_zero]
      exact Nat.le_trans (Nat.mul_le_mul_left _ s1) ih
    · rw [if_neg he, Nat.pow_succ, Nat.pow_succ, Nat.mul_assoc]
      have := s2 he
      calc 4 ^ errN f g k * (4 * sumW (fun a => wtN f g a (k + 1)) n) ≤ 4 ^ errN f g k * (3 * sumW (fun a => wtN f g a k) n) := Nat.mul_le_mul_left _ this
        _ = 3 * (4 ^ errN f g k * sumW (fun a => wtN f g a k) n) := by rw [Nat.mul_left_comm]
        _ ≤ 3 * (3 ^ errN f g k * (n * f)) := Nat.mul_le_mul_left _ ih
        _ = 3 ^ errN f g k * 3 * (n * f) := by rw [← Nat.mul_assoc, Nat.mul_comm 3]
/-- Halving with one for each: who errs loses at least half. -/
theorem half_split (g : List Rnd) (k n : Nat) (h : (rAt g k).1.length = n) (he : saidN 1 g k ≠ (rAt g k).2) : 2 * sumW (fun a => wtN 1 g a (k + 1)) n ≤ sumW (fun a => wtN 1 g a k) n := by
  have key : ∀ m, m ≤ n → ∃ B : Nat, ((rAt g k).2 = true → surp (fun a => wtN 1 g a k) (rAt g k).1 m = (sumW (fun a => wtN 1 g a k) m : Int) - 2 * B) ∧ ((rAt g k).2 = false → surp (fun a => wtN 1 g a k) (rAt g k).1 m = 2 * (B : Int) - sumW (fun a => wtN 1 g a k) m) ∧ sumW (fun a => wtN 1 g a (k + 1)) m + B = sumW (fun a => wtN 1 g a k) m := by
    intro m
    induction m with
    | zero => exact fun _ => ⟨0, fun _ => by simp [surp, sumW], fun _ => by simp [surp, sumW], by simp [sumW]⟩
    | succ m ih =>
      intro hm
      obtain ⟨B, h1, h2, h3⟩ := ih (by omega)
      have hb := bad_at (rAt g k) m (by omega)
      have hw := wtN_succ 1 g m k
      have hl := wtN_le 1 g m k
      cases hbd : bad (rAt g k) m with
      | true =>
        rw [hbd, if_pos rfl] at hw
        refine ⟨B + wtN 1 g m k, fun hr => ?_, fun hr => ?_, ?_⟩
        · have : bAt (rAt g k).1 m = false := by rw [hbd, hr] at hb; simpa using hb.symm
          rw [surp, sumW, this, h1 hr]; simp; omega
        · have : bAt (rAt g k).1 m = true := by rw [hbd, hr] at hb; simpa using hb.symm
          rw [surp, sumW, this, h2 hr]; simp; omega
        · simp only [sumW]; omega
      | false =>
        rw [hbd] at hw
        simp at hw
        refine ⟨B, fun hr => ?_, fun hr => ?_, ?_⟩
        · have : bAt (rAt g k).1 m = true := by rw [hbd, hr] at hb; simpa using hb.symm
          rw [surp, sumW, this, h1 hr]; simp; omega
        · have : bAt (rAt g k).1 m = false := by rw [hbd, hr] at hb; simpa using hb.symm
          rw [surp, sumW, this, h2 hr]; simp; omega
        · simp only [sumW]; omega
  obtain ⟨B, h1, h2, h3⟩ := key n (Nat.le_refl _)
  unfold saidN sayN at he
  rw [h] at he
  cases hr : (rAt g k).2 with
  | true =>
    rw [h1 hr, hr] at he
    simp at he
    omega
  | false =>
    rw [h2 hr, hr] at he
    simp at he
    omega
theorem half_bound (g : List Rnd) (n k : Nat) (h : ∀ i, i < k → (rAt g i).1.length = n) : 2 ^ errN 1 g k * sumW (fun a => wtN 1 g a k) n ≤ n := by
  induction k with
  | zero =>
    rw [errN]
    have : (fun a => wtN 1 g a 0) = fun _ => 1 := funext fun a => wtN_zero 1 g a
    rw [this, sumW_const]; simp
  | succ k ih =>
    have ih := ih fun i hi => h i (by omega)
    obtain ⟨s1, _⟩ := err_step 1 g k n (h k (by omega))
    rw [errN]
    by_cases he : saidN 1 g k = (rAt g k).2
    · rw [if_pos he, Nat.add_zero]
      exact Nat.le_trans (Nat.mul_le_mul_left _ s1) ih
    · rw [if_neg he, Nat.pow_succ, Nat.mul_assoc]
      exact Nat.le_trans (Nat.mul_le_mul_left _ (half_split g k n (h k (by omega)) he)) ih
theorem wt1_iff (g : List Rnd) (a k : Nat) : wtN 1 g a k = if wrongN g a k = 0 then 1 else 0 := by
  unfold wtN
  split
  · rename_i h; rw [h]
  · rename_i h
    have : 1 < 2 ^ wrongN g a k := Nat.one_lt_two_pow h
    exact Nat.div_eq_of_lt this
/-- The halving rule errs no more often than so. -/
theorem half_errs (g : List Rnd) (h : GameOk g) (a : Nat) (ha : a < advs g) (hw : wrongN g a g.length = 0) : 2 ^ errN 1 g g.length ≤ advs g := by
  have hb := half_bound g (advs g) g.length fun i hi => (h.adv i hi).1
  have h1 : 1 ≤ sumW (fun a => wtN 1 g a g.length) (advs g) := by
    have := sumW_at (fun a => wtN 1 g a g.length) (advs g) a ha
    simp only [wt1_iff, hw, if_pos] at this
    simpa only [wt1_iff] using this
  exact Nat.le_trans (by have := Nat.mul_le_mul_left (2 ^ errN 1 g g.length) h1; omega) hb

/-- Whether the office may err m times. -/
def bndP (a w m : Nat) : Bool := decide (2 ^ (2 * m - w) ≤ a * 3 ^ m)
def bndTo (a w : Nat) : Nat → Nat
  | 0 => 0
  | k + 1 => if bndP a w k = true then k else bndTo a w k
theorem bndTo_le (a w k : Nat) : bndTo a w k ≤ k := by
  induction k with
  | zero => exact Nat.le_refl _
  | succ k ih => rw [bndTo]; split <;> omega
theorem bndTo_ge (a w k m : Nat) (h : m < k) (hp : bndP a w m = true) : m ≤ bndTo a w k := by
  induction k with
  | zero => omega
  | succ k ih =>
    rw [bndTo]
    split
    · omega
    · rename_i hn
      rcases Nat.lt_or_ge m k with hh | hh
      · exact ih hh
      · obtain rfl : m = k := by omega
        exact absurd hp hn
theorem bndTo_cases (a w k : Nat) : bndTo a w k = 0 ∨ (bndTo a w k < k ∧ bndP a w (bndTo a w k) = true) := by
  induction k with
  | zero => exact .inl rfl
  | succ k ih =>
    rw [bndTo]
    split
    · rename_i h; exact .inr ⟨by omega, h⟩
    · rcases ih with h | ⟨h1, h2⟩
      · exact .inl h
      · exact .inr ⟨by omega, h2⟩
theorem bndTo_mono (a w b v k : Nat) (h : ∀ m, bndP a w m = true → bndP b v m = true) : bndTo a w k ≤ bndTo b v k := by
  rcases bndTo_cases a w k with e | ⟨h1, h2⟩
  · omega
  · exact bndTo_ge b v k _ h1 (h _ h2)
theorem bndP_mono (a w b v m : Nat) (h1 : a ≤ b) (h2 : w ≤ v) (h : bndP a w m = true) : bndP b v m = true := by
  unfold bndP at *
  rw [decide_eq_true_eq] at *
  exact Nat.le_trans (Nat.pow_le_pow_right (by omega) (by omega)) (Nat.le_trans h (Nat.mul_le_mul_right _ h1))
/-- The bound, with the error. -/
def boundV (a w : Int) : Int × Int := if 1 ≤ a ∧ a ≤ 8 ∧ 0 ≤ w ∧ w ≤ 24 then (bndTo a.toNat w.toNat 25, 0) else (0, 1)
theorem bound_errs (g : List Rnd) (h : GameOk g) (k : Nat) (hk : k ≤ g.length) (a : Nat) (ha : a < advs g) : errN 16777216 g k ≤ bndTo (advs g) (wrongN g a k) 25 := by
  have hl := h.len
  have he := errN_le 16777216 g k
  have hw := wrongN_le g a k
  refine bndTo_ge _ _ _ _ (by omega) ?_
  have hb := err_bound 16777216 g (advs g) k fun i hi => (h.adv i (by omega)).1
  have h1 := sumW_at (fun a => wtN 16777216 g a k) (advs g) a ha
  rw [wtN_full g a k (by omega)] at h1
  have h2 : 4 ^ errN 16777216 g k * 2 ^ (24 - wrongN g a k) ≤ 3 ^ errN 16777216 g k * (advs g * 16777216) := Nat.le_trans (Nat.mul_le_mul_left _ h1) hb
  generalize errN 16777216 g k = m at *
  generalize wrongN g a k = v at *
  generalize advs g = n at *
  unfold bndP
  rw [decide_eq_true_eq]
  rw [show (4 : Nat) = 2 ^ 2 from rfl, ← Nat.pow_mul, ← Nat.pow_add] at h2
  rcases Nat.lt_or_ge (2 * m) v with hh | hh
  · rw [show 2 * m - v = 0 by omega]
    have : 0 < n * 3 ^ m := Nat.mul_pos (by omega) (Nat.pow_pos (by omega))
    omega
  · rw [show 2 * m + (24 - v) = (2 * m - v) + 24 by omega, Nat.pow_add] at h2
    have h3 : 2 ^ (2 * m - v) * 16777216 ≤ n * 3 ^ m * 16777216 := by
      calc 2 ^ (2 * m - v) * 16777216 ≤ 3 ^ m * (n * 16777216) := h2
        _ = n * 3 ^ m * 16777216 := by rw [← Nat.mul_assoc, Nat.mul_comm (3 ^ m)]
    exact Nat.le_of_mul_le_mul_right h3 (by omega)
/-- The first of those who were wrong least often. -/
def bestTo (g : List Rnd) : Nat → Nat
  | 0 => 0
  | a + 1 => if wrongN g a g.length < wrongN g (bestTo g a) g.length then a else bestTo g a
theorem bestTo_le (g : List Rnd) (n : Nat) (h : 0 < n) : bestTo g n < n := by
  induction n with
  | zero => omega
  | succ n ih =>
    rw [bestTo]; split
    · omega
    · rcases Nat.eq_zero_or_pos n with rfl | hh
      · simp [bestTo]
      · have := ih hh; omega
theorem bestTo_min (g : List Rnd) (n a : Nat) (h : a < n) : wrongN g (bestTo g n) g.length ≤ wrongN g a g.length := by
  induction n with
  | zero => omega
  | succ n ih =>
    rw [bestTo]
    rcases Nat.lt_or_ge a n with hh | hh
    · have := ih hh
      split <;> omega
    · obtain rfl : a = n := by omega
      split <;> omega
end Go.Proofs.Ytfjncmhbpfcdiab
