/- How many words have a total of points: mathematics. -/
import Derived.Test.YtkboeldafppicaaMCount
set_option linter.unusedVariables false
namespace Go.Proofs.Ytkboeldafppicaa

theorem sumN_congr (f g : Nat → Int) (k : Nat) (h : ∀ c, c < k → f c = g c) : sumN f k = sumN g k := by
  induction k with
  | zero => rfl
  | succ k ih => rw [sumN, sumN, ih (fun c hc => h c (by omega)), h k (by omega)]
theorem sumN_add (f g : Nat → Int) (k : Nat) : sumN (fun c => f c + g c) k = sumN f k + sumN g k := by
  induction k with
  | zero => rfl
  | succ k ih => rw [sumN, sumN, sumN, ih]; omega
theorem sumN_mul (f : Nat → Int) (x : Int) (k : Nat) : sumN (fun c => f c * x) k = sumN f k * x := by
  induction k with
  | zero => simp [sumN]
  | succ k ih => rw [sumN, sumN, ih, Int.add_mul]
theorem sumN_zero (k : Nat) : sumN (fun _ => 0) k = 0 := by
  induction k with
  | zero => rfl
  | succ k ih => rw [sumN, ih]; rfl
theorem sumN_swap (f : Nat → Nat → Int) (a b : Nat) : sumN (fun i => sumN (fun j => f i j) b) a = sumN (fun j => sumN (fun i => f i j) a) b := by
  induction a with
  | zero => rw [sumN]; symm; exact sumN_zero b
  | succ a ih =>
    rw [sumN, ih, ← sumN_add]
    exact sumN_congr _ _ _ (fun j _ => rfl)
theorem sumN_pick (n t : Nat) (ht : t < n) (g : Nat → Int) : sumN (fun i => if t = i then g i else 0) n = g t := by
  induction n with
  | zero => omega
  | succ n ih =>
    rw [sumN]
    by_cases e : t = n
    · subst e
      rw [if_pos rfl, sumN_congr _ (fun _ => 0) t (fun c hc => if_neg (by omega)), sumN_zero]; omega
    · rw [if_neg e, ih (by omega)]; omega
theorem sumN_nn (f : Nat → Int) (k : Nat) (h : ∀ c, c < k → 0 ≤ f c) : 0 ≤ sumN f k := by
  induction k with
  | zero => exact Int.le_refl _
  | succ k ih => rw [sumN]; have := ih (fun c hc => h c (by omega)); have := h k (by omega); omega
theorem sumN_le (f : Nat → Int) (k j : Nat) (hj : j ≤ k) (h : ∀ c, c < k → 0 ≤ f c) : sumN f j ≤ sumN f k := by
  induction k with
  | zero => have : j = 0 := by omega
            subst this; exact Int.le_refl _
  | succ k ih =>
    by_cases e : j = k + 1
    · subst e; exact Int.le_refl _
    · rw [sumN]; have := ih (by omega) (fun c hc => h c (by omega)); have := h k (by omega); omega
theorem sumN_one (f : Nat → Int) (k i : Nat) (hi : i < k) (h : ∀ c, c < k → 0 ≤ f c) : f i ≤ sumN f k := by
  have h1 := sumN_le f k (i + 1) (by omega) h
  have h2 := sumN_nn f i (fun c hc => h c (by omega))
  rw [sumN] at h1
  omega
/-- A sum of what is moved to the right by p, of which nothing falls out. -/
theorem sumN_shift (f : Nat → Int) (p b : Nat) : sumN (fun q => if p ≤ q then f (q - p) else 0) (b + p) = sumN f b := by
  induction b with
  | zero =>
    rw [sumN_congr _ (fun _ => 0) _ (fun c hc => if_neg (by omega)), sumN_zero]; rfl
  | succ b ih => rw [show b + 1 + p = (b + p) + 1 by omega, sumN, ih, sumN, if_pos (by omega), show b + p - p = b by omega]
section
variable (L n : Nat) (next : Nat → Nat → Nat) (P : Nat → Nat)
/-- What the letter c of the state s brings to the state i and the total q. -/
def brg (F : Nat → Nat → Int) (s c i q : Nat) : Int := if next s c = i then (if P c ≤ q then F s (q - P c) else 0) else 0
/-- How many words of k letters lead from 0 to a state with a total. -/
def fwP : Nat → Nat → Nat → Int
  | 0, i, q => if i = 0 ∧ q = 0 then 1 else 0
  | k + 1, i, q => sumN (fun s => sumN (fun c => brg next P (fwP k) s c i q) L) n
end
section
variable {L n : Nat} {next : Nat → Nat → Nat} {P : Nat → Nat}
theorem brg_nn (F : Nat → Nat → Int) (hF : ∀ s q, 0 ≤ F s q) (s c i q : Nat) : 0 ≤ brg next P F s c i q := by
  unfold brg; split
  · split
    · exact hF _ _
    · exact Int.le_refl _
  · exact Int.le_refl _
theorem fwP_nn (k : Nat) : ∀ i q, 0 ≤ fwP L n next P k i q := by
  induction k with
  | zero => intro i q; rw [fwP]; split <;> simp
  | succ k ih => intro i q; rw [fwP]; exact sumN_nn _ _ (fun s _ => sumN_nn _ _ (fun c _ => brg_nn _ ih s c i q))
/-- No word has more than twenty points a letter. -/
theorem fwP_high (hP : ∀ c, c < L → P c ≤ 20) (k : Nat) : ∀ i q, 20 * k < q → fwP L n next P k i q = 0 := by
  induction k with
  | zero => intro i q hq; rw [fwP, if_neg (by omega)]
  | succ k ih =>
    intro i q hq
    rw [fwP, sumN_congr _ (fun _ => 0) n (fun s _ => ?_), sumN_zero]
    rw [sumN_congr _ (fun _ => 0) L (fun c hc => ?_), sumN_zero]
    unfold brg
    have := hP c hc
    split
    · split
      · exact ih _ _ (by omega)
      · rfl
    · rfl
theorem sumN_ext (f : Nat → Int) (a b : Nat) (hab : a ≤ b) (h : ∀ q, a ≤ q → f q = 0) : sumN f b = sumN f a := by
  induction b with
  | zero => have : a = 0 := by omega
            subst this; rfl
  | succ b ih =>
    by_cases e : a = b + 1
    · subst e; rfl
    · rw [sumN, ih (by omega), h b (by omega)]; omega
/-- All words of k letters that lead to a state, whatever their points. -/
def gwP (L n : Nat) (next : Nat → Nat → Nat) (P : Nat → Nat) (k i : Nat) : Int := sumN (fwP L n next P k i) (20 * k + 1)
theorem gwP_any (hP : ∀ c, c < L → P c ≤ 20) (k i m : Nat) (hm : 20 * k + 1 ≤ m) : sumN (fwP L n next P k i) m = gwP L n next P k i :=
  sumN_ext _ _ _ hm (fun q hq => fwP_high hP k i q (by omega))
theorem gwP_succ (hP : ∀ c, c < L → P c ≤ 20) (k i : Nat) : gwP L n next P (k + 1) i = sumN (fun s => sumN (fun c => if next s c = i then gwP L n next P k s else 0) L) n := by
  unfold gwP
  rw [show fwP L n next P (k + 1) i = fun q => sumN (fun s => sumN (fun c => brg next P (fwP L n next P k) s c i q) L) n from funext fun q => rfl]
  rw [← sumN_swap (fun s q => sumN (fun c => brg next P (fwP L n next P k) s c i q) L)]
  refine sumN_congr _ _ _ (fun s _ => ?_)
  rw [← sumN_swap (fun c q => brg next P (fwP L n next P k) s c i q)]
  refine sumN_congr _ _ _ (fun c hc => ?_)
  try dsimp only
  by_cases e : next s c = i
  · rw [if_pos e]
    have hc20 := hP c hc
    have h1 : sumN (fun q => brg next P (fwP L n next P k) s c i q) (20 * (k + 1) + 1) = sumN (fun q => if P c ≤ q then fwP L n next P k s (q - P c) else 0) ((20 * (k + 1) + 1 - P c) + P c) := by
      rw [show (20 * (k + 1) + 1 - P c) + P c = 20 * (k + 1) + 1 by omega]
      exact sumN_congr _ _ _ (fun q _ => by unfold brg; rw [if_pos e])
    rw [h1, sumN_shift]
    exact gwP_any hP k s _ (by omega)
  · rw [if_neg e]
    rw [sumN_congr _ (fun _ => 0) _ (fun q _ => by unfold brg; rw [if_neg e]), sumN_zero]
/-- Words forward and words backward, put together. -/
theorem gwP_dual (hP : ∀ c, c < L → P c ≤ 20) (hcl : ∀ s c, s < n → c < L → next s c < n) (W : Nat → Nat → Int) (hW : ∀ j s, s < n → W (j + 1) s = sumN (fun c => W j (next s c)) L) (k j : Nat) :
    sumN (fun s => gwP L n next P (k + 1) s * W j s) n = sumN (fun s => gwP L n next P k s * W (j + 1) s) n := by
  have h1 : sumN (fun t => gwP L n next P (k + 1) t * W j t) n = sumN (fun t => sumN (fun s => sumN (fun c => if next s c = t then gwP L n next P k s * W j t else 0) L) n) n := by
    refine sumN_congr _ _ _ (fun t _ => ?_)
    try dsimp only
    rw [gwP_succ hP, ← sumN_mul]
    refine sumN_congr _ _ _ (fun s _ => ?_)
    try dsimp only
    rw [← sumN_mul]
    refine sumN_congr _ _ _ (fun c _ => ?_)
    try dsimp only
    split
    · rfl
    · simp
  rw [h1, sumN_swap (fun t s => sumN (fun c => if next s c = t then gwP L n next P k s * W j t else 0) L)]
  refine sumN_congr _ _ _ (fun s hs => ?_)
  try dsimp only
  rw [sumN_swap (fun t c => if next s c = t then gwP L n next P k s * W j t else 0), hW j s hs]
  rw [sumN_congr _ (fun c => W j (next s c) * gwP L n next P k s) L (fun c hc => ?_), sumN_mul, Int.mul_comm]
  try dsimp only
  rw [sumN_pick n (next s c) (hcl s c hs hc) (fun t => gwP L n next P k s * W j t), Int.mul_comm]
theorem gwP_start (h0 : 0 < n) (W : Nat → Nat → Int) (k : Nat) : sumN (fun s => gwP L n next P 0 s * W k s) n = W k 0 := by
  have h1 : ∀ s, gwP L n next P 0 s = if s = 0 then 1 else 0 := fun s => by
    unfold gwP
    rw [show 20 * 0 + 1 = 1 from rfl, sumN, sumN, fwP]
    by_cases e : s = 0
    · simp [e]
    · simp [e]
  rw [sumN_congr _ (fun s => if 0 = s then W k s else 0) n (fun s _ => by
    (try dsimp only); rw [h1]
    by_cases e : s = 0
    · subst e; simp
    · rw [if_neg e, if_neg (fun h => e h.symm)]; simp)]
  exact sumN_pick n 0 h0 (fun s => W k s)
theorem gwP_all (hP : ∀ c, c < L → P c ≤ 20) (h0 : 0 < n) (hcl : ∀ s c, s < n → c < L → next s c < n) (W : Nat → Nat → Int) (hW : ∀ j s, s < n → W (j + 1) s = sumN (fun c => W j (next s c)) L) (k : Nat) : ∀ j, sumN (fun s => gwP L n next P k s * W j s) n = W (k + j) 0 := by
  induction k with
  | zero => intro j; rw [gwP_start h0, Nat.zero_add]
  | succ k ih => intro j; rw [gwP_dual hP hcl W hW, ih]; congr 1; omega
/-- The words of all totals together. -/
def cpP (L n : Nat) (next : Nat → Nat → Nat) (P : Nat → Nat) (acc : Nat → Bool) (k q : Nat) : Int := sumN (fun s => if acc s = true then fwP L n next P k s q else 0) n
theorem cpP_sum (hP : ∀ c, c < L → P c ≤ 20) (h0 : 0 < n) (hcl : ∀ s c, s < n → c < L → next s c < n) (acc : Nat → Bool) (W : Nat → Nat → Int) (hW : ∀ j s, s < n → W (j + 1) s = sumN (fun c => W j (next s c)) L) (hW0 : ∀ s, W 0 s = if acc s = true then 1 else 0) (k : Nat) : sumN (cpP L n next P acc k) (20 * k + 1) = W k 0 := by
  have h := gwP_all hP h0 hcl W hW k 0
  rw [Nat.add_zero] at h
  rw [← h]
  rw [show cpP L n next P acc k = fun q => sumN (fun s => if acc s = true then fwP L n next P k s q else 0) n from rfl]
  rw [sumN_swap (fun q s => if acc s = true then fwP L n next P k s q else 0)]
  refine sumN_congr _ _ _ (fun s _ => ?_)
  try dsimp only
  rw [hW0]
  by_cases e : acc s = true
  · rw [if_pos e, Int.mul_one]
    exact sumN_congr _ _ _ (fun q _ => by (try dsimp only); rw [if_pos e])
  · rw [if_neg e, Int.mul_zero, sumN_congr _ (fun _ => 0) _ (fun q _ => by (try dsimp only); rw [if_neg e]), sumN_zero]
/-- All words of k letters: L to the power of k. -/
theorem gwP_pow (hP : ∀ c, c < L → P c ≤ 20) (h0 : 0 < n) (hcl : ∀ s c, s < n → c < L → next s c < n) (k : Nat) : sumN (gwP L n next P k) n = (L : Int) ^ k := by
  have hc : ∀ (x : Int) (m : Nat), sumN (fun _ => x) m = m * x := fun x m => by
    induction m with
    | zero => simp [sumN]
    | succ m ih => rw [sumN, ih, Int.natCast_add, Int.add_mul]; simp
  have h := gwP_all hP h0 hcl (fun j _ => (L : Int) ^ j) (fun j s _ => by (try dsimp only); rw [hc, Int.pow_succ, Int.mul_comm]) k 0
  rw [Nat.add_zero] at h
  rw [← h]
  exact sumN_congr _ _ _ (fun s _ => by simp)
theorem fwP_bd (hP : ∀ c, c < L → P c ≤ 20) (h0 : 0 < n) (hcl : ∀ s c, s < n → c < L → next s c < n) (k i q : Nat) (hi : i < n) : fwP L n next P k i q ≤ (L : Int) ^ k := by
  rw [← gwP_pow hP h0 hcl k]
  have hg : ∀ s, 0 ≤ gwP L n next P k s := fun s => sumN_nn _ _ (fun q _ => fwP_nn k s q)
  have h1 := sumN_one (gwP L n next P k) n i hi (fun s _ => hg s)
  have h2 : fwP L n next P k i q ≤ gwP L n next P k i := by
    rw [← gwP_any hP k i (max (20 * k + 1) (q + 1)) (by omega)]
    exact sumN_one _ _ q (by omega) (fun q _ => fwP_nn k i q)
  omega
theorem cpP_bd (hP : ∀ c, c < L → P c ≤ 20) (h0 : 0 < n) (hcl : ∀ s c, s < n → c < L → next s c < n) (acc : Nat → Bool) (k q j : Nat) (hj : j ≤ n) : 0 ≤ sumN (fun s => if acc s = true then fwP L n next P k s q else 0) j ∧ sumN (fun s => if acc s = true then fwP L n next P k s q else 0) j ≤ (L : Int) ^ k := by
  have hnn : ∀ s, 0 ≤ (fun s => if acc s = true then fwP L n next P k s q else 0) s := fun s => by
    (try dsimp only); split
    · exact fwP_nn k s q
    · exact Int.le_refl _
  refine ⟨sumN_nn _ _ (fun s _ => hnn s), ?_⟩
  rw [← gwP_pow hP h0 hcl k]
  have h1 := sumN_le _ n j hj (fun s _ => hnn s)
  have hmono : ∀ (f g : Nat → Int) (m : Nat), (∀ s, s < m → f s ≤ g s) → sumN f m ≤ sumN g m := fun f g m h => by
    induction m with
    | zero => exact Int.le_refl _
    | succ m ih => rw [sumN, sumN]; have := ih (fun s hs => h s (by omega)); have := h m (by omega); omega
  refine Int.le_trans h1 (hmono _ _ _ (fun s _ => ?_))
  have h2 : fwP L n next P k s q ≤ gwP L n next P k s := by
    rw [← gwP_any hP k s (max (20 * k + 1) (q + 1)) (by omega)]
    exact sumN_one _ _ q (by omega) (fun q _ => fwP_nn k s q)
  have h3 : 0 ≤ gwP L n next P k s := sumN_nn _ _ (fun q _ => fwP_nn k s q)
  try dsimp only
  split
  · exact h2
  · exact h3
end
end Go.Proofs.Ytkboeldafppicaa
