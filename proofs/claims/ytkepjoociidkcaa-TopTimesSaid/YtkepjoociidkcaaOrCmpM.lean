/- Compact tables: plain mathematics. -/
import Derived.Test.YtkepjoociidkcaaOrNeedM
import Derived.Test.YtkepjoociidkcaaOrSpM
set_option linter.unusedVariables false
namespace Go.Proofs.Ytkepjoociidkcaa

def toF (c : Int) (s : List Spn) : List Fct := s.map (fun x => ⟨0, c, x.f, x.t, x.m⟩)
def cmpTo (l : List Fct) (n : Nat) : Nat → List Fct
  | 0 => []
  | k + 1 => cmpTo l n k ++ toF (k : Int) (spTo (gMeal l (k : Int) n) 1000)
theorem cmpTo_succ (l : List Fct) (n k : Nat) : cmpTo l n (k + 1) = cmpTo l n k ++ toF (k : Int) (spTo (gMeal l (k : Int) n) 1000) := rfl
theorem toF_len (c : Int) (s : List Spn) : (toF c s).length = s.length := by simp [toF]
theorem toF_take (c : Int) (s : List Spn) (k : Nat) (h : k < s.length) : toF c (s.take (k + 1)) = toF c (s.take k) ++ [⟨0, c, (sAt s k).f, (sAt s k).t, (sAt s k).m⟩] := by
  rw [List.take_succ_eq_append_getElem h]
  unfold toF sAt
  rw [List.map_append, List.getElem?_eq_getElem h]
  rfl
theorem cmpTo_len (l : List Fct) (n k : Nat) : (cmpTo l n k).length ≤ k * 1000 := by
  induction k with
  | zero => simp [cmpTo]
  | succ k ih =>
    rw [cmpTo_succ, List.length_append, toF_len]
    have := spTo_len (gMeal l (k : Int) n) 1000
    omega
theorem cmpTo_mem {l : List Fct} {n k : Nat} {f : Fct} : f ∈ cmpTo l n k ↔ ∃ c : Nat, c < k ∧ ∃ s ∈ spTo (gMeal l (c : Int) n) 1000, f = ⟨0, c, s.f, s.t, s.m⟩ := by
  induction k with
  | zero => simp [cmpTo]
  | succ k ih =>
    rw [cmpTo_succ, List.mem_append, ih]
    constructor
    · rintro (⟨c, h1, h2⟩ | h)
      · exact ⟨c, by omega, h2⟩
      · unfold toF at h
        rw [List.mem_map] at h
        obtain ⟨s, hs, rfl⟩ := h
        exact ⟨k, by omega, s, hs, rfl⟩
    · rintro ⟨c, h1, s, hs, rfl⟩
      by_cases e : c = k
      · subst e
        right
        unfold toF
        rw [List.mem_map]
        exact ⟨s, hs, rfl⟩
      · exact .inl ⟨c, by omega, s, hs, rfl⟩
theorem snocInd {P : List Fct → Prop} (h0 : P []) (h1 : ∀ l x, P l → P (l ++ [x])) : ∀ l, P l := by
  intro l
  rw [← List.reverse_reverse l]
  induction l.reverse with
  | nil => exact h0
  | cons x t ih => rw [List.reverse_cons]; exact h1 _ _ ih
theorem lastF_some {P : Fct → Bool} {l : List Fct} {f : Fct} (h : lastF P l = some f) : f ∈ l ∧ P f = true := by
  revert h
  refine snocInd (P := fun l => lastF P l = some f → f ∈ l ∧ P f = true) ?_ ?_ l
  · intro h; simp [lastF] at h
  · intro l x ih h
    rw [lastF_snoc] at h
    split at h
    · rename_i hp
      obtain rfl : x = f := by simpa using h
      exact ⟨by simp, hp⟩
    · have := ih h
      exact ⟨by simp [this.1], this.2⟩
theorem lastF_none {P : Fct → Bool} {l : List Fct} (h : lastF P l = none) : ∀ f ∈ l, P f = false := by
  revert h
  refine snocInd (P := fun l => lastF P l = none → ∀ f ∈ l, P f = false) ?_ ?_ l
  · intro _; simp
  · intro l x ih h
    rw [lastF_snoc] at h
    split at h
    · cases h
    · rename_i hp
      intro f hf
      rcases List.mem_append.1 hf with g | g
      · exact ih h f g
      · simp at g; subst g; simpa using hp
theorem gMeal_some {l : List Fct} {c d : Int} {n : Nat} {m : Int} : gMeal l c n d = some m ↔ mealK l c d n = m ∧ m ≠ 0 := by
  unfold gMeal
  split
  · rename_i h
    constructor
    · intro g; cases g
    · rintro ⟨g, g2⟩; omega
  · rename_i h
    constructor
    · intro g
      have : mealK l c d n = m := by simpa using g
      exact ⟨this, by omega⟩
    · rintro ⟨g, _⟩; rw [g]
/-- By the compact table the same is known from the minute 0 on. -/
theorem cmp_meal (l : List Fct) (n : Nat) (c : Nat) (hc : c < 100) (d at_ : Int) (h0 : 0 ≤ d) (h1 : d ≤ 999) (ha : 0 ≤ at_) : refMeal (cmpTo l n 100) at_ (c : Int) d = mealK l (c : Int) d n := by
  rw [refMeal_last]
  have hd := fun m => spTo_day (gMeal l (c : Int) n) 1000 d h0 (by omega) m
  cases hl : lastF (askP at_ (c : Int) d) (cmpTo l n 100) with
  | some f =>
    obtain ⟨h2, h3⟩ := lastF_some hl
    rw [cmpTo_mem] at h2
    obtain ⟨c2, h4, s, hs, rfl⟩ := h2
    simp [askP] at h3
    obtain ⟨h5, h6, h7, h8⟩ := h3
    obtain rfl : c2 = c := by omega
    have := (hd s.m).1 ⟨s, hs, h7, h8, rfl⟩
    exact ((gMeal_some.1 this).1).symm
  | none =>
    have hn := lastF_none hl
    by_cases hz : mealK l (c : Int) d n = 0
    · exact hz.symm
    · obtain ⟨s, hs, h2, h3, h4⟩ := (hd (mealK l (c : Int) d n)).2 (gMeal_some.2 ⟨rfl, hz⟩)
      have := hn ⟨0, c, s.f, s.t, s.m⟩ (cmpTo_mem.2 ⟨c, hc, s, hs, rfl⟩)
      simp [askP] at this
      omega
theorem pairwise_zero (l : List Fct) (h : ∀ f ∈ l, f.a = 0) : l.Pairwise (fun x y => x.a ≤ y.a) := by
  induction l with
  | nil => exact List.Pairwise.nil
  | cons x r ih =>
    refine List.Pairwise.cons (fun y hy => ?_) (ih (fun f hf => h f (by simp [hf])))
    have h1 := h x (by simp)
    have h2 := h y (by simp [hy])
    omega
theorem mealK_09 {l : List Fct} (hf : ∀ f ∈ l, factB f = true) (c d : Int) (n : Nat) (hn : n ≤ l.length) : 0 ≤ mealK l c d n ∧ mealK l c d n ≤ 9 := by
  unfold mealK
  cases hw : whyTo l c d n with
  | none => simp
  | some i =>
    have h1 := (whyTo_lt hw).1
    have := (factB_iff.1 (hf _ (fAt_mem l i (by omega)))).2.2.2
    exact this
theorem cmp_fact {l : List Fct} (hf : ∀ f ∈ l, factB f = true) {n : Nat} (hn : n ≤ l.length) : ∀ f ∈ cmpTo l n 100, factB f = true := by
  intro f h
  rw [cmpTo_mem] at h
  obtain ⟨c, h1, s, hs, rfl⟩ := h
  have hb := spTo_bd _ _ s hs
  have hg := (spTo_day (gMeal l (c : Int) n) 1000 s.f hb.1 (by omega) s.m).1 ⟨s, hs, Int.le_refl _, hb.2.1, rfl⟩
  have hm := gMeal_some.1 hg
  have := mealK_09 hf (c : Int) s.f n hn
  rw [factB_iff]
  dsimp only
  omega
theorem cmp_valid {l : List Fct} (hf : ∀ f ∈ l, factB f = true) {n : Nat} (hn : n ≤ l.length) (h60 : (cmpTo l n 100).length ≤ 60) : validE (cmpTo l n 100) = 0 := by
  rw [validE_iff, factsE_iff]
  have ha : ∀ f ∈ cmpTo l n 100, f.a = 0 := by
    intro f h
    rw [cmpTo_mem] at h
    obtain ⟨c, h1, s, hs, rfl⟩ := h
    rfl
  exact ⟨h60, cmp_fact hf hn, pairwise_zero _ ha, fun f h => by have := ha f h; omega⟩
/-- A child that is not named has no spans. -/
theorem unnamed_sp {l : List Fct} {c : Int} (h : ∀ i, i < l.length → (fAt l i).c ≠ c) (n : Nat) (hn : n ≤ l.length) (k : Nat) : spTo (gMeal l c n) k = [] := by
  have hw : ∀ d m, m ≤ l.length → whyTo l c d m = none := by
    intro d m
    induction m with
    | zero => intro _; rfl
    | succ m ih =>
      intro hm
      show (if (fAt l m).c = c ∧ onB (fAt l m) d = true then some m else whyTo l c d m) = none
      rw [if_neg (fun g => h m (by omega) g.1), ih (by omega)]
  induction k with
  | zero => rfl
  | succ k ih =>
    have hg : gMeal l c n (k : Int) = none := by unfold gMeal mealK; rw [hw _ _ hn]; rfl
    show (match gMeal l c n (k : Int) with | none => spTo (gMeal l c n) k | some m => addDay (spTo (gMeal l c n) k) (k : Int) m) = []
    rw [hg]; exact ih
end Go.Proofs.Ytkepjoociidkcaa
