/- The fewest points of words, and the first word that has them: mathematics. -/
set_option linter.unusedVariables false
namespace Go.Proofs.Ytkboeldafppicaa

def minN (N : Int) (f : Nat → Int) : Nat → Int
  | 0 => N
  | c + 1 => min (minN N f c) (f c)
section
variable (L : Nat) (next : Nat → Nat → Nat) (acc : Nat → Bool) (P : Nat → Int)
def cT (N : Int) : Nat → Nat → Int
  | 0, s => if acc s = true then 0 else N
  | k + 1, s => minN N (fun c => P c + cT N k (next s c)) L
/-- The first letter that goes on with the fewest points. -/
def cdig (f : Nat → Int) (r : Int) : Nat := ((List.range L).find? (fun a => decide (f a ≤ r))).getD 0
def cW (N : Int) : Nat → Nat → List Int
  | 0, _ => []
  | k + 1, s => (cdig L (fun c => P c + cT L next acc P N k (next s c)) (cT L next acc P N (k + 1) s) : Int) :: cW N k (next s (cdig L (fun c => P c + cT L next acc P N k (next s c)) (cT L next acc P N (k + 1) s)))
end
theorem minN_le (N : Int) (f : Nat → Int) (k : Nat) : minN N f k ≤ N ∧ ∀ c, c < k → minN N f k ≤ f c := by
  induction k with
  | zero => exact ⟨Int.le_refl _, fun c hc => by omega⟩
  | succ k ih =>
    rw [minN]
    refine ⟨by have := ih.1; omega, fun c hc => ?_⟩
    by_cases e : c = k
    · subst e; omega
    · have := ih.2 c (by omega); omega
theorem minN_at (N : Int) (f : Nat → Int) (k : Nat) : minN N f k = N ∨ ∃ c, c < k ∧ minN N f k = f c := by
  induction k with
  | zero => exact .inl rfl
  | succ k ih =>
    rw [minN]
    by_cases h : minN N f k ≤ f k
    · rw [show min (minN N f k) (f k) = minN N f k by omega]
      rcases ih with e | ⟨c, hc, e⟩
      · exact .inl e
      · exact .inr ⟨c, by omega, e⟩
    · exact .inr ⟨k, by omega, by omega⟩
/-- Two tables with two marks for 'none' say the same. -/
def RelC (N N' : Int) (k : Nat) (x y : Int) : Prop := (x = N ∧ y = N') ∨ (x = y ∧ 0 ≤ x ∧ x ≤ 20 * k)
theorem minN_rel (N N' : Int) (f g : Nat → Int) (B : Int) (hN : B < N) (hN' : B < N') (L : Nat) (h : ∀ c, c < L → (N ≤ f c ∧ N' ≤ g c) ∨ (f c = g c ∧ 0 ≤ f c ∧ f c ≤ B)) (k : Nat) (hk : k ≤ L) :
    (minN N f k = N ∧ minN N' g k = N') ∨ (minN N f k = minN N' g k ∧ 0 ≤ minN N f k ∧ minN N f k ≤ B) := by
  induction k with
  | zero => exact .inl ⟨rfl, rfl⟩
  | succ k ih =>
    have h1 := ih (by omega)
    have h2 := h k (by omega)
    rw [minN, minN]
    omega
theorem cT_rel (L : Nat) (next : Nat → Nat → Nat) (acc : Nat → Bool) (P : Nat → Int) (N N' : Int) (hP : ∀ c, c < L → 0 ≤ P c ∧ P c ≤ 20) (n : Nat) (hN : 20 * (n : Int) < N) (hN' : 20 * (n : Int) < N') : ∀ k, k ≤ n → ∀ s, RelC N N' k (cT L next acc P N k s) (cT L next acc P N' k s) := by
  intro k
  induction k with
  | zero => intro _ s; rw [cT, cT]; unfold RelC; split <;> simp
  | succ k ih =>
    intro hk s
    rw [cT, cT]
    have := minN_rel N N' (fun c => P c + cT L next acc P N k (next s c)) (fun c => P c + cT L next acc P N' k (next s c)) (20 * ((k + 1 : Nat) : Int)) (by omega) (by omega) L (fun c hc => by
      have h1 := ih (by omega) (next s c)
      have h2 := hP c hc
      unfold RelC at h1
      try dsimp only
      omega) L (Nat.le_refl _)
    exact this
theorem cdig_eq (L : Nat) (f : Nat → Int) (r : Int) (a : Nat) (ha : a < L) (h1 : f a ≤ r) (h2 : ∀ c, c < a → r < f c) : cdig L f r = a := by
  unfold cdig
  rw [List.find?_range_eq_some.2 ⟨by simpa using h1, List.mem_range.2 ha, fun j hj => by have := h2 j hj; simp; omega⟩]
  rfl
theorem cdig_spec (L : Nat) (f : Nat → Int) (r : Int) (h : ∃ c, c < L ∧ f c ≤ r) : cdig L f r < L ∧ f (cdig L f r) ≤ r ∧ ∀ c, c < cdig L f r → r < f c := by
  cases h2 : (List.range L).find? (fun a => decide (f a ≤ r)) with
  | none =>
    obtain ⟨c, hc, hf⟩ := h
    have := List.find?_eq_none.1 h2 c (by simpa using hc)
    simp at this; omega
  | some i =>
    obtain ⟨h3, h4, h5⟩ := List.find?_range_eq_some.1 h2
    unfold cdig
    rw [h2]
    refine ⟨by simpa using h4, by simpa using h3, fun c hc => ?_⟩
    have := h5 c hc
    simp at this; omega
/-- Where there is a word, some letter goes on with the fewest points. -/
theorem cT_step (L : Nat) (next : Nat → Nat → Nat) (acc : Nat → Bool) (P : Nat → Int) (N : Int) (k s : Nat) (h : cT L next acc P N (k + 1) s < N) :
    cdig L (fun c => P c + cT L next acc P N k (next s c)) (cT L next acc P N (k + 1) s) < L ∧
    P (cdig L (fun c => P c + cT L next acc P N k (next s c)) (cT L next acc P N (k + 1) s)) + cT L next acc P N k (next s (cdig L (fun c => P c + cT L next acc P N k (next s c)) (cT L next acc P N (k + 1) s))) = cT L next acc P N (k + 1) s ∧
    ∀ c, c < cdig L (fun c => P c + cT L next acc P N k (next s c)) (cT L next acc P N (k + 1) s) → cT L next acc P N (k + 1) s < P c + cT L next acc P N k (next s c) := by
  have he : cT L next acc P N (k + 1) s = minN N (fun c => P c + cT L next acc P N k (next s c)) L := rfl
  have h1 := minN_at N (fun c => P c + cT L next acc P N k (next s c)) L
  obtain ⟨g1, g2, g3⟩ := cdig_spec L (fun c => P c + cT L next acc P N k (next s c)) (cT L next acc P N (k + 1) s) (by
    rcases h1 with e | ⟨c, hc, e⟩
    · omega
    · exact ⟨c, hc, by omega⟩)
  have h2 := (minN_le N (fun c => P c + cT L next acc P N k (next s c)) L).2 _ g1
  try dsimp only at g2 g3 h2
  exact ⟨g1, by omega, g3⟩
theorem cT_le (L : Nat) (next : Nat → Nat → Nat) (acc : Nat → Bool) (P : Nat → Int) (N : Int) (hN : 0 ≤ N) (hP : ∀ c, c < L → 0 ≤ P c) (k : Nat) : ∀ s, 0 ≤ cT L next acc P N k s ∧ cT L next acc P N k s ≤ N := by
  induction k with
  | zero => intro s; rw [cT]; split <;> omega
  | succ k ih =>
    intro s
    rw [cT]
    have h1 := minN_le N (fun c => P c + cT L next acc P N k (next s c)) L
    have h2 := minN_at N (fun c => P c + cT L next acc P N k (next s c)) L
    refine ⟨?_, h1.1⟩
    rcases h2 with e | ⟨c, hc, e⟩
    · omega
    · have := ih (next s c); have := hP c hc; omega
/-- The words by two marks are one. -/
theorem cW_rel (L : Nat) (next : Nat → Nat → Nat) (acc : Nat → Bool) (P : Nat → Int) (N N' : Int) (hP : ∀ c, c < L → 0 ≤ P c ∧ P c ≤ 20) (n : Nat) (hN : 20 * (n : Int) < N) (hN' : 20 * (n : Int) < N') : ∀ k, k ≤ n → ∀ s, cT L next acc P N k s < N → cW L next acc P N k s = cW L next acc P N' k s := by
  intro k
  induction k with
  | zero => intro _ s _; rfl
  | succ k ih =>
    intro hk s hs
    have hr := cT_rel L next acc P N N' hP n hN hN' (k + 1) hk s
    have hs' : cT L next acc P N' (k + 1) s < N' := by unfold RelC at hr; omega
    obtain ⟨a1, a2, a3⟩ := cT_step L next acc P N k s hs
    obtain ⟨b1, b2, b3⟩ := cT_step L next acc P N' k s hs'
    have hrc := fun c => cT_rel L next acc P N N' hP n hN hN' k (by omega) (next s c)
    have heq : cdig L (fun c => P c + cT L next acc P N k (next s c)) (cT L next acc P N (k + 1) s) = cdig L (fun c => P c + cT L next acc P N' k (next s c)) (cT L next acc P N' (k + 1) s) := by
      refine cdig_eq _ _ _ _ b1 ?_ ?_
      · have h1 := hrc (cdig L (fun c => P c + cT L next acc P N' k (next s c)) (cT L next acc P N' (k + 1) s))
        have h2 := hP _ b1
        unfold RelC at h1 hr
        try dsimp only
        omega
      · intro c hc
        have h1 := hrc c
        have h2 := hP c (by omega)
        have h3 := b3 c hc
        unfold RelC at h1 hr
        try dsimp only
        omega
    rw [cW, cW, heq]
    congr 1
    refine ih (by omega) _ ?_
    have h2 := hP _ a1
    rw [heq] at a2 h2
    omega
theorem cW_spec (L : Nat) (next : Nat → Nat → Nat) (acc : Nat → Bool) (P : Nat → Int) (N : Int) (hP : ∀ c, c < L → 0 ≤ P c) (k : Nat) : ∀ s, cT L next acc P N k s < N → (cW L next acc P N k s).length = k ∧ ∀ x ∈ cW L next acc P N k s, 0 ≤ x ∧ x < L := by
  induction k with
  | zero => intro s _; exact ⟨rfl, fun x hx => by simp [cW] at hx⟩
  | succ k ih =>
    intro s hs
    obtain ⟨a1, a2, a3⟩ := cT_step L next acc P N k s hs
    obtain ⟨g1, g2⟩ := ih (next s (cdig L (fun c => P c + cT L next acc P N k (next s c)) (cT L next acc P N (k + 1) s))) (by have := hP _ a1; omega)
    rw [cW]
    refine ⟨by rw [List.length_cons, g1], fun x hx => ?_⟩
    rcases List.mem_cons.1 hx with e | e
    · rw [e]; omega
    · exact g2 x e
end Go.Proofs.Ytkboeldafppicaa
