/- Heat: steps of cooling and warming. Plain mathematics. -/
set_option linter.unusedVariables false
namespace Go.Proofs.Ythogliblgcccnaa

/-- A step of cooling. -/
def coolD (t a n d : Int) : Int := a + (t - a) * n / d
def coolN (t a n d : Int) : Nat → Int
  | 0 => t
  | k + 1 => coolD (coolN t a n d k) a n d
/-- The division of the program, made to round down. -/
theorem down_neg (p d : Int) (hd : 1 ≤ d) (h : p.tmod d < 0) : p.tdiv d - 1 = p / d := by
  have h1 := Int.mul_tdiv_add_tmod p d
  have h2 := Int.emod_add_mul_ediv p d
  have h3 := Int.emod_nonneg p (by omega : d ≠ 0)
  have h4 := Int.emod_lt_of_pos p (by omega : 0 < d)
  have h5 : -d < p.tmod d := by
    have := Int.lt_tmod_of_pos p (by omega : 0 < d); omega
  have e : d * (p.tdiv d - 1 - p / d) = p % d - p.tmod d - d := by
    rw [Int.mul_sub, Int.mul_sub]; omega
  have h6 : -d < d * (p.tdiv d - 1 - p / d) := by omega
  have h7 : d * (p.tdiv d - 1 - p / d) < d := by omega
  have h8 : p.tdiv d - 1 - p / d < 1 := by
    refine Int.lt_of_mul_lt_mul_left (a := d) (by omega) (by omega)
  have h9 : -1 < p.tdiv d - 1 - p / d := by
    refine Int.lt_of_mul_lt_mul_left (a := d) (by omega) (by omega)
  omega
theorem down_pos (p d : Int) (hd : 1 ≤ d) (h : 0 ≤ p.tmod d) : p.tdiv d = p / d := by
  have h1 := Int.mul_tdiv_add_tmod p d
  have h2 := Int.emod_add_mul_ediv p d
  have h3 := Int.emod_nonneg p (by omega : d ≠ 0)
  have h4 := Int.emod_lt_of_pos p (by omega : 0 < d)
  have h5 : p.tmod d < d := Int.tmod_lt_of_pos p (by omega : 0 < d)
  have e : d * (p.tdiv d - p / d) = p % d - p.tmod d := by
    rw [Int.mul_sub]; omega
  have h8 : p.tdiv d - p / d < 1 := by
    refine Int.lt_of_mul_lt_mul_left (a := d) (by omega) (by omega)
  have h9 : -1 < p.tdiv d - p / d := by
    refine Int.lt_of_mul_lt_mul_left (a := d) (by omega) (by omega)
  omega
theorem prod_hi (x n : Int) (hx : -4000 ≤ x ∧ x ≤ 4000) (hn : 0 ≤ n ∧ n ≤ 100) : -400000 ≤ x * n ∧ x * n ≤ 400000 := by
  constructor
  · have : (-4000) * n ≤ x * n := Int.mul_le_mul_of_nonneg_right hx.1 hn.1
    omega
  · have : x * n ≤ 4000 * n := Int.mul_le_mul_of_nonneg_right hx.2 hn.1
    omega
theorem quot_hi (p d : Int) (hp : -400000 ≤ p ∧ p ≤ 400000) (hd : 1 ≤ d) : (-400000 ≤ p / d ∧ p / d ≤ 400000) ∧ (-400001 ≤ p.tdiv d ∧ p.tdiv d ≤ 400001) ∧ (-400000 ≤ p.tmod d ∧ p.tmod d ≤ 400000) := by
  have h1 : p / d ≤ 400000 := by
    refine Int.le_trans (Int.ediv_le_ediv (by omega) hp.2) ?_
    exact Int.ediv_le_self _ (by omega)
  have h2 : -400000 ≤ p / d := by
    refine (Int.le_ediv_iff_mul_le (by omega)).2 ?_
    have : (-400000 : Int) * d ≤ (-400000) * 1 := Int.mul_le_mul_of_nonpos_left (by omega) (by omega)
    omega
  refine ⟨⟨h2, h1⟩, ?_, ?_⟩
  · by_cases h : 0 ≤ p.tmod d
    · rw [down_pos p d hd h]; omega
    · have := down_neg p d hd (by omega); omega
  · have h3 := Int.mul_tdiv_add_tmod p d
    by_cases h : 0 ≤ p
    · have h4 : 0 ≤ p.tmod d := Int.tmod_nonneg d h
      have h5 : p.tmod d ≤ p := by
        have h6 : 0 ≤ p.tdiv d := Int.tdiv_nonneg h (by omega)
        have : 0 ≤ d * p.tdiv d := Int.mul_nonneg (by omega) h6
        omega
      omega
    · have h4 : p.tmod d = -((-p).tmod d) := by rw [Int.neg_tmod]; omega
      have h5 : 0 ≤ (-p).tmod d := Int.tmod_nonneg d (by omega)
      have h6 : (-p).tmod d ≤ -p := by
        have h7 := Int.mul_tdiv_add_tmod (-p) d
        have h8 : 0 ≤ (-p).tdiv d := Int.tdiv_nonneg (by omega) (by omega)
        have : 0 ≤ d * (-p).tdiv d := Int.mul_nonneg (by omega) h8
        omega
      omega
/-- A step goes toward the air. -/
theorem coolD_bd {t a n d : Int} (ht : -2000 ≤ t ∧ t ≤ 2000) (ha : -2000 ≤ a ∧ a ≤ 2000) (hd : 1 ≤ d) (hn : 0 ≤ n ∧ n ≤ d) : -2000 ≤ coolD t a n d ∧ coolD t a n d ≤ 2000 := by
  unfold coolD
  by_cases h : 0 ≤ t - a
  · have h1 : 0 ≤ (t - a) * n / d := Int.ediv_nonneg (Int.mul_nonneg h hn.1) (by omega)
    have h2 : (t - a) * n / d ≤ t - a := by
      refine Int.le_trans (Int.ediv_le_ediv (by omega) (Int.mul_le_mul_of_nonneg_left hn.2 h)) ?_
      rw [Int.mul_ediv_cancel _ (by omega)]; exact Int.le_refl _
    omega
  · have h1 : (t - a) * n / d ≤ 0 := by
      have : (t - a) * n ≤ 0 := Int.mul_nonpos_of_nonpos_of_nonneg (by omega) hn.1
      have := Int.ediv_le_ediv (c := d) (by omega) this
      simpa using this
    have h2 : t - a ≤ (t - a) * n / d := by
      refine (Int.le_ediv_iff_mul_le (by omega)).2 ?_
      exact Int.mul_le_mul_of_nonpos_left (by omega) hn.2
    omega
theorem coolN_bd {t a n d : Int} (ht : -2000 ≤ t ∧ t ≤ 2000) (ha : -2000 ≤ a ∧ a ≤ 2000) (hd : 1 ≤ d) (hn : 0 ≤ n ∧ n ≤ d) (k : Nat) : -2000 ≤ coolN t a n d k ∧ coolN t a n d k ≤ 2000 := by
  induction k with
  | zero => exact ht
  | succ k ih => exact coolD_bd ih ha hd hn
theorem coolD_mono {s t a n d : Int} (h : s ≤ t) (hd : 1 ≤ d) (hn : 0 ≤ n) : coolD s a n d ≤ coolD t a n d := by
  unfold coolD
  have := Int.ediv_le_ediv (c := d) (by omega) (Int.mul_le_mul_of_nonneg_right (by omega : s - a ≤ t - a) hn)
  omega
theorem coolN_mono {s t a n d : Int} (h : s ≤ t) (hd : 1 ≤ d) (hn : 0 ≤ n) (k : Nat) : coolN s a n d k ≤ coolN t a n d k := by
  induction k with
  | zero => exact h
  | succ k ih => exact coolD_mono ih hd hn
theorem coolN_add (t a n d : Int) (j k : Nat) : coolN (coolN t a n d j) a n d k = coolN t a n d (j + k) := by
  induction k with
  | zero => rfl
  | succ k ih => show coolD (coolN (coolN t a n d j) a n d k) a n d = coolD (coolN t a n d (j + k)) a n d; rw [ih]
theorem coolN_one (t a n d : Int) : coolN t a n d 1 = coolD t a n d := rfl
theorem neg_ediv_le (p d : Int) (hd : 1 ≤ d) : p / d ≤ -(-p / d) := by
  have h1 := Int.ediv_mul_le p (b := d) (by omega)
  have h2 := Int.ediv_mul_le (-p) (b := d) (by omega)
  have h3 : (p / d + -p / d) * d ≤ 0 * d := by rw [Int.add_mul]; omega
  have h4 := Int.le_of_mul_le_mul_right h3 (by omega)
  omega
/-- Rounded down is never above rounded up. -/
theorem cool_warm {x y a n d : Int} (h : x ≤ y) (hd : 1 ≤ d) (hn : 0 ≤ n) : coolD x a n d ≤ -coolD (-y) (-a) n d := by
  have h1 := coolD_mono (a := a) h hd hn
  refine Int.le_trans h1 ?_
  unfold coolD
  have h2 := neg_ediv_le ((y - a) * n) d hd
  rw [show (-y - -a) * n = -((y - a) * n) by rw [show (-y - -a) = -(y - a) by omega, Int.neg_mul]]
  omega
theorem coolN_warm (t a n d : Int) (hd : 1 ≤ d) (hn : 0 ≤ n) (k : Nat) : coolN t a n d k ≤ -coolN (-t) (-a) n d k := by
  induction k with
  | zero => simp only [coolN]; omega
  | succ k ih =>
    have := cool_warm (a := a) ih hd hn
    rw [Int.neg_neg] at this
    exact this
/-- The first number of steps after which it is below a limit: f more are looked at from k on. -/
def belowK (t a n d lim : Int) : Nat → Nat → Int × Bool
  | 0, _ => (0, false)
  | f + 1, k => if coolN t a n d k < lim then ((k : Int), true) else belowK t a n d lim f (k + 1)
theorem belowK_yes {t a n d lim : Int} {f k : Nat} (h : coolN t a n d k < lim) : belowK t a n d lim (f + 1) k = ((k : Int), true) := if_pos h
theorem belowK_no {t a n d lim : Int} {f k : Nat} (h : ¬ coolN t a n d k < lim) : belowK t a n d lim (f + 1) k = belowK t a n d lim f (k + 1) := if_neg h
theorem belowK_bd (t a n d lim : Int) (f : Nat) : ∀ k, 0 ≤ (belowK t a n d lim f k).1 ∧ (belowK t a n d lim f k).1 ≤ k + f := by
  induction f with
  | zero => intro k; simp [belowK]
  | succ f ih =>
    intro k
    unfold belowK
    split
    · simp; omega
    · have := ih (k + 1); omega
/-- Fewer looked at: the same, as far as it goes. -/
theorem belowK_less (t a n d lim : Int) (f : Nat) : ∀ (k g : Nat), f ≤ g → ((belowK t a n d lim f k).2 = true ↔ (belowK t a n d lim g k).2 = true ∧ (belowK t a n d lim g k).1 < k + f) := by
  induction f with
  | zero =>
    intro k g _
    constructor
    · intro h; simp [belowK] at h
    · rintro ⟨h1, h2⟩
      exfalso
      have key : ∀ (g k : Nat), (belowK t a n d lim g k).2 = true → (k : Int) ≤ (belowK t a n d lim g k).1 := by
        intro g
        induction g with
        | zero => intro k h; simp [belowK] at h
        | succ g ih =>
          intro k h
          unfold belowK at h ⊢
          split
          · simp
          · rename_i hc
            rw [if_neg hc] at h
            have := ih (k + 1) h; omega
      have := key g k h1; omega
  | succ f ih =>
    intro k g hg
    obtain ⟨g, rfl⟩ : ∃ j, g = j + 1 := ⟨g - 1, by omega⟩
    by_cases h : coolN t a n d k < lim
    · rw [belowK_yes h, belowK_yes h]; simp; omega
    · rw [belowK_no h, belowK_no h]
      have := ih (k + 1) g (by omega)
      rw [this]
      constructor
      · rintro ⟨a, b⟩; exact ⟨a, by omega⟩
      · rintro ⟨a, b⟩; exact ⟨a, by omega⟩
end Go.Proofs.Ythogliblgcccnaa
