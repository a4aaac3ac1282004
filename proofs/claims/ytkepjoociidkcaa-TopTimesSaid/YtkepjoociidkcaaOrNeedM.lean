/- Which facts are needless, and that without them the same is known: plain mathematics. -/
import Derived.Test.YtkepjoociidkcaaOrTellM
set_option linter.unusedVariables false
namespace Go.Proofs.Ytkepjoociidkcaa

/-- The fact number i is the reason on one of its first k days, at its own minute. -/
def usedTo (l : List Fct) (i : Nat) : Nat → Bool
  | 0 => false
  | k + 1 => usedTo l i k || decide (whyTo l (fAt l i).c ((fAt l i).f + (k : Int)) (cutL (fAt l i).a l) = some i)
def usedB (l : List Fct) (i : Nat) : Bool := usedTo l i ((fAt l i).t - (fAt l i).f).toNat
theorem usedTo_succ (l : List Fct) (i k : Nat) : usedTo l i (k + 1) = (usedTo l i k || decide (whyTo l (fAt l i).c ((fAt l i).f + (k : Int)) (cutL (fAt l i).a l) = some i)) := rfl
theorem usedTo_mono {l : List Fct} {i k n : Nat} (h : usedTo l i k = true) (hk : k ≤ n) : usedTo l i n = true := by
  induction n with
  | zero => obtain rfl : k = 0 := by omega
            exact h
  | succ n ih =>
    by_cases e : k = n + 1
    · subst e; exact h
    · rw [usedTo_succ, ih (by omega)]; rfl
theorem usedTo_day {l : List Fct} {i n j : Nat} (hj : j < n) (h : whyTo l (fAt l i).c ((fAt l i).f + (j : Int)) (cutL (fAt l i).a l) = some i) : usedTo l i n = true := by
  refine usedTo_mono (k := j + 1) ?_ hj
  rw [usedTo_succ, decide_eq_true h, Bool.or_true]
def needTo (l : List Fct) : Nat → List Int
  | 0 => []
  | k + 1 => if usedB l k = true then needTo l k else needTo l k ++ [(k : Int)]
def restTo (l : List Fct) : Nat → List Fct
  | 0 => []
  | k + 1 => if usedB l k = true then restTo l k ++ [fAt l k] else restTo l k
theorem needTo_succ (l : List Fct) (k : Nat) : needTo l (k + 1) = if usedB l k = true then needTo l k else needTo l k ++ [(k : Int)] := rfl
theorem restTo_succ (l : List Fct) (k : Nat) : restTo l (k + 1) = if usedB l k = true then restTo l k ++ [fAt l k] else restTo l k := rfl
theorem needTo_len (l : List Fct) (k : Nat) : (needTo l k).length ≤ k := by
  induction k with
  | zero => simp [needTo]
  | succ k ih => rw [needTo_succ]; split <;> (try rw [List.length_append, List.length_singleton]) <;> omega
theorem restTo_len (l : List Fct) (k : Nat) : (restTo l k).length ≤ k := by
  induction k with
  | zero => simp [restTo]
  | succ k ih => rw [restTo_succ]; split <;> (try rw [List.length_append, List.length_singleton]) <;> omega
theorem needTo_bd (l : List Fct) (k : Nat) : ∀ x ∈ needTo l k, 0 ≤ x ∧ x < (k : Int) := by
  induction k with
  | zero => simp [needTo]
  | succ k ih =>
    intro x hx
    rw [needTo_succ] at hx
    split at hx
    · have := ih x hx; omega
    · rcases List.mem_append.1 hx with h | h
      · have := ih x h; omega
      · simp at h; omega
theorem needTo_split (l : List Fct) (k j : Nat) : ∃ t, needTo l (k + j) = needTo l k ++ t ∧ ∀ x ∈ t, (k : Int) ≤ x := by
  induction j with
  | zero => exact ⟨[], by simp, by simp⟩
  | succ j ih =>
    obtain ⟨t, h1, h2⟩ := ih
    rw [show k + (j + 1) = (k + j) + 1 from rfl, needTo_succ, h1]
    split
    · exact ⟨t, rfl, h2⟩
    · refine ⟨t ++ [((k + j : Nat) : Int)], by simp, ?_⟩
      intro x hx
      rcases List.mem_append.1 hx with h | h
      · exact h2 x h
      · simp at h; omega
/-- The next needless number is k exactly if the fact number k is needless. -/
theorem needTo_next (l : List Fct) (k n : Nat) (h : k < n) : (usedB l k = false → (needTo l k).length < (needTo l n).length ∧ (needTo l n)[(needTo l k).length]?.getD 0 = (k : Int)) ∧ (usedB l k = true → (needTo l k).length < (needTo l n).length → (needTo l n)[(needTo l k).length]?.getD 0 ≠ (k : Int)) := by
  obtain ⟨t, h1, h2⟩ := needTo_split l (k + 1) (n - (k + 1))
  rw [show k + 1 + (n - (k + 1)) = n by omega] at h1
  constructor
  · intro hu
    rw [h1, needTo_succ, if_neg (by rw [hu]; simp)]
    constructor
    · simp
    · simp
  · intro hu hl
    rw [needTo_succ, if_pos hu] at h1
    rw [h1] at hl ⊢
    cases t with
    | nil => simp at hl
    | cons y t =>
      have := h2 y (by simp)
      simp
      omega

/-- The last fact of a list of which P says so. -/
def lastF (P : Fct → Bool) (l : List Fct) : Option Fct := l.foldl (fun o x => if P x = true then some x else o) none
theorem lastF_snoc (P : Fct → Bool) (l : List Fct) (x : Fct) : lastF P (l ++ [x]) = if P x = true then some x else lastF P l := by
  unfold lastF; rw [List.foldl_append]; rfl
theorem rest_some (P : Fct → Bool) (l : List Fct) (i : Nat) (hu : usedB l i = true) (hP : P (fAt l i) = true) (k : Nat) (h1 : i < k) (h2 : ∀ j, i < j → j < k → P (fAt l j) = false) : lastF P (restTo l k) = some (fAt l i) := by
  induction k with
  | zero => omega
  | succ k ih =>
    rw [restTo_succ]
    by_cases e : i = k
    · subst e
      rw [if_pos hu, lastF_snoc, if_pos hP]
    · have hI := ih (by omega) (fun j a b => h2 j a (by omega))
      split
      · rw [lastF_snoc, if_neg (by rw [h2 k (by omega) (by omega)]; simp), hI]
      · exact hI
theorem rest_none (P : Fct → Bool) (l : List Fct) (k : Nat) (h2 : ∀ j, j < k → P (fAt l j) = false) : lastF P (restTo l k) = none := by
  induction k with
  | zero => rfl
  | succ k ih =>
    have hI := ih (fun j a => h2 j (by omega))
    rw [restTo_succ]
    split
    · rw [lastF_snoc, if_neg (by rw [h2 k (by omega)]; simp), hI]
    · exact hI
/-- What is asked of a fact. -/
def askP (at_ c d : Int) (f : Fct) : Bool := decide (f.a ≤ at_ ∧ f.c = c ∧ f.f ≤ d ∧ d < f.t)
theorem refTo_step (l : List Fct) (at_ c d : Int) (k : Nat) : refTo l at_ c d (k + 1) = if askP at_ c d (fAt l k) = true then (k : Int) else refTo l at_ c d k := by
  show (if (fAt l k).a ≤ at_ ∧ (fAt l k).c = c ∧ (fAt l k).f ≤ d ∧ d < (fAt l k).t then (k : Int) else refTo l at_ c d k) = _
  unfold askP
  by_cases h : (fAt l k).a ≤ at_ ∧ (fAt l k).c = c ∧ (fAt l k).f ≤ d ∧ d < (fAt l k).t
  · rw [if_pos h, if_pos (decide_eq_true h)]
  · rw [if_neg h, if_neg (by simpa using h)]
theorem refTo_found (l : List Fct) (at_ c d : Int) (k : Nat) : (refTo l at_ c d k = -1 ∧ ∀ j, j < k → askP at_ c d (fAt l j) = false) ∨ ∃ i : Nat, refTo l at_ c d k = (i : Int) ∧ i < k ∧ askP at_ c d (fAt l i) = true ∧ ∀ j, i < j → j < k → askP at_ c d (fAt l j) = false := by
  induction k with
  | zero => exact .inl ⟨rfl, fun j h => by omega⟩
  | succ k ih =>
    rw [refTo_step]
    by_cases h : askP at_ c d (fAt l k) = true
    · exact .inr ⟨k, by rw [if_pos h], by omega, h, fun j a b => by omega⟩
    · rw [if_neg h]
      have hf : askP at_ c d (fAt l k) = false := by simpa using h
      rcases ih with ⟨h1, h2⟩ | ⟨i, h1, h2, h3, h4⟩
      · refine .inl ⟨h1, fun j hj => ?_⟩
        by_cases e : j = k
        · rw [e]; exact hf
        · exact h2 j (by omega)
      · refine .inr ⟨i, h1, by omega, h3, fun j a b => ?_⟩
        by_cases e : j = k
        · rw [e]; exact hf
        · exact h4 j a (by omega)
theorem refTo_last (l : List Fct) (at_ c d : Int) (k : Nat) (hk : k ≤ l.length) : lastF (askP at_ c d) (l.take k) = if refTo l at_ c d k < 0 then none else some (fAt l (refTo l at_ c d k).toNat) := by
  induction k with
  | zero => rfl
  | succ k ih =>
    rw [take_fAt l k (by omega), lastF_snoc, refTo_step]
    by_cases h : askP at_ c d (fAt l k) = true
    · rw [if_pos h, if_pos h, if_neg (by omega)]; rfl
    · rw [if_neg h, if_neg h, ih (by omega)]
theorem refMeal_last (l : List Fct) (at_ c d : Int) : refMeal l at_ c d = match lastF (askP at_ c d) l with | none => 0 | some f => f.m := by
  have := refTo_last l at_ c d l.length (Nat.le_refl _)
  rw [List.take_length] at this
  rw [this]
  unfold refMeal
  split <;> rfl
theorem whyTo_mono {l : List Fct} {c d : Int} {k n i : Nat} (h : whyTo l c d n = some i) (hi : i < k) (hk : k ≤ n) : whyTo l c d k = some i := by
  induction n with
  | zero => simp [whyTo] at h
  | succ n ih =>
    by_cases e : k = n + 1
    · rw [e]; exact h
    · unfold whyTo at h
      split at h
      · have : n = i := by simpa using h
        omega
      · exact ih h (by omega)
/-- What is a reason at any minute is used. -/
theorem why_used {l : List Fct} (hs : ∀ i j, i ≤ j → j < l.length → (fAt l i).a ≤ (fAt l j).a) {at_ c d : Int} {i : Nat} (h : whyTo l c d (cutL at_ l) = some i) : usedB l i = true := by
  obtain ⟨h1, h2, h3⟩ := whyTo_lt h
  have hc := cutL_le at_ l
  have ha := cutL_lo at_ l i h1
  have h4 : i < cutL (fAt l i).a l := by
    by_cases e : i < cutL (fAt l i).a l
    · exact e
    · have := cutL_behind (at_ := (fAt l i).a) hs i (by omega) (by omega); omega
  have h5 : cutL (fAt l i).a l ≤ cutL at_ l := by
    by_cases e : cutL (fAt l i).a l ≤ cutL at_ l
    · exact e
    · have g1 := cutL_lo (fAt l i).a l (cutL at_ l) (by omega)
      have g2 := cutL_hi at_ l (by have := cutL_le (fAt l i).a l; omega)
      omega
  have h6 := whyTo_mono h h4 h5
  simp [onB] at h3
  have e : (fAt l i).f + (((d - (fAt l i).f).toNat : Nat) : Int) = d := by omega
  refine usedTo_day (j := (d - (fAt l i).f).toNat) (by omega) ?_
  rw [e, h2]
  exact h6
/-- Without the needless facts the same is known. -/
theorem rest_meal {l : List Fct} (hs : ∀ i j, i ≤ j → j < l.length → (fAt l i).a ≤ (fAt l j).a) (at_ c d : Int) : refMeal (restTo l l.length) at_ c d = refMeal l at_ c d := by
  rw [refMeal_last]
  unfold refMeal
  rcases refTo_found l at_ c d l.length with ⟨h1, h2⟩ | ⟨i, h1, h2, h3, h4⟩
  · rw [rest_none _ _ _ h2, h1]; rfl
  · have hw : whyTo l c d (cutL at_ l) = some i := by
      have := refTo_cut hs at_ c d
      rw [h1] at this
      cases hx : whyTo l c d (cutL at_ l) with
      | none => rw [hx] at this; change (i : Int) = -1 at this; omega
      | some j => rw [hx] at this; change (i : Int) = (j : Int) at this; congr 1; omega
    rw [rest_some _ _ i (why_used hs hw) h3 _ h2 h4, h1, if_neg (by omega)]; rfl
theorem factsE_iff (p : Int) (l : List Fct) : factsE p l = 0 ↔ (∀ f ∈ l, factB f = true) ∧ l.Pairwise (fun x y => x.a ≤ y.a) ∧ ∀ f ∈ l, p ≤ f.a := by
  induction l generalizing p with
  | nil => simp [factsE]
  | cons x r ih =>
    have e : factsE p (x :: r) = if factB x = false then 1 else if x.a < p then 7 else factsE x.a r := rfl
    rw [e, List.pairwise_cons]
    by_cases h1 : factB x = false
    · rw [if_pos h1]
      constructor
      · intro h; omega
      · rintro ⟨h, _⟩; have := h x (by simp); rw [h1] at this; cases this
    · rw [if_neg h1]
      by_cases h2 : x.a < p
      · rw [if_pos h2]
        constructor
        · intro h; omega
        · rintro ⟨_, _, h⟩; have := h x (by simp); omega
      · rw [if_neg h2, ih]
        constructor
        · rintro ⟨a, b, c⟩
          refine ⟨?_, ⟨c, b⟩, ?_⟩
          · intro f hf
            rcases List.mem_cons.1 hf with rfl | hf
            · simpa using h1
            · exact a f hf
          · intro f hf
            rcases List.mem_cons.1 hf with rfl | hf
            · omega
            · have := c f hf; omega
        · rintro ⟨a, ⟨c, b⟩, _⟩
          exact ⟨fun f hf => a f (by simp [hf]), b, c⟩
theorem restTo_sub (l : List Fct) (k : Nat) (hk : k ≤ l.length) : (restTo l k).Sublist (l.take k) := by
  induction k with
  | zero => simp [restTo]
  | succ k ih =>
    rw [restTo_succ, take_fAt l k (by omega)]
    split
    · exact (ih (by omega)).append (List.Sublist.refl _)
    · exact List.Sublist.trans (ih (by omega)) (List.sublist_append_left _ _)
theorem validE_iff (l : List Fct) : validE l = 0 ↔ l.length ≤ 60 ∧ factsE 0 l = 0 := by
  unfold validE
  split
  · constructor
    · intro h; omega
    · rintro ⟨h, _⟩; omega
  · constructor
    · intro h; exact ⟨by omega, h⟩
    · rintro ⟨_, h⟩; exact h
theorem validE_sub {l r : List Fct} (h : validE l = 0) (hs : r.Sublist l) : validE r = 0 := by
  rw [validE_iff] at h ⊢
  obtain ⟨h1, h2⟩ := h
  rw [factsE_iff] at h2 ⊢
  obtain ⟨a, b, c⟩ := h2
  have hl := hs.length_le
  exact ⟨by omega, fun f hf => a f (hs.subset hf), b.sublist hs, fun f hf => c f (hs.subset hf)⟩
theorem rest_valid {l : List Fct} (h : validE l = 0) : validE (restTo l l.length) = 0 := by
  have := restTo_sub l l.length (Nat.le_refl _)
  rw [List.take_length] at this
  exact validE_sub h this
end Go.Proofs.Ytkepjoociidkcaa
