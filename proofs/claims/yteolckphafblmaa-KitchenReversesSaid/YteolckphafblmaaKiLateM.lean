/- Which batches are packed too late. Plain mathematics. -/
import Derived.Test.YteolckphafblmaaKiTryM
set_option linter.unusedVariables false
namespace Go.Proofs.Yteolckphafblmaa

/-- The late ones of the first k places; and of one number, and of the first n numbers, as the document goes through them. -/
def lateTo (o : List Int) (f : Nat → Bool) : Nat → List Int
  | 0 => []
  | k + 1 => lateTo o f k ++ (if f k = true then [oAt o k] else [])
def innTo (o : List Int) (f : Nat → Bool) (n : Int) : Nat → List Int
  | 0 => []
  | k + 1 => innTo o f n k ++ (if oAt o k = n ∧ f k = true then [n] else [])
def refTo (o : List Int) (f : Nat → Bool) : Nat → List Int
  | 0 => []
  | n + 1 => refTo o f n ++ innTo o f (n : Int) o.length
theorem lateTo_mem (o : List Int) (f : Nat → Bool) (k : Nat) (x : Int) : x ∈ lateTo o f k ↔ ∃ i, i < k ∧ oAt o i = x ∧ f i = true := by
  induction k with
  | zero => simp [lateTo]
  | succ k ih =>
    rw [lateTo, List.mem_append, ih]
    constructor
    · rintro (⟨i, h1, h2, h3⟩ | h)
      · exact ⟨i, by omega, h2, h3⟩
      · by_cases hf : f k = true
        · rw [if_pos hf] at h; simp at h; exact ⟨k, by omega, h.symm, hf⟩
        · rw [if_neg hf] at h; simp at h
    · rintro ⟨i, h1, h2, h3⟩
      rcases Nat.lt_or_ge i k with h | h
      · exact .inl ⟨i, h, h2, h3⟩
      · have : i = k := by omega
        subst this
        right; rw [if_pos h3, h2]; simp
theorem innTo_mem (o : List Int) (f : Nat → Bool) (n : Int) (k : Nat) (x : Int) : x ∈ innTo o f n k ↔ x = n ∧ ∃ i, i < k ∧ oAt o i = n ∧ f i = true := by
  induction k with
  | zero => simp [innTo]
  | succ k ih =>
    rw [innTo, List.mem_append, ih]
    constructor
    · rintro (⟨h0, i, h1, h2, h3⟩ | h)
      · exact ⟨h0, i, by omega, h2, h3⟩
      · by_cases hf : oAt o k = n ∧ f k = true
        · rw [if_pos hf] at h; simp at h; exact ⟨h, k, by omega, hf.1, hf.2⟩
        · rw [if_neg hf] at h; simp at h
    · rintro ⟨h0, i, h1, h2, h3⟩
      rcases Nat.lt_or_ge i k with h | h
      · exact .inl ⟨h0, i, h, h2, h3⟩
      · have : i = k := by omega
        subst this
        right; rw [if_pos ⟨h2, h3⟩, h0]; simp
theorem innTo_short (o : List Int) (f : Nat → Bool) (n : Int) (hn : o.Nodup) (k : Nat) (hk : k ≤ o.length) : innTo o f n k = [] ∨ (innTo o f n k = [n] ∧ ∃ i, i < k ∧ oAt o i = n) := by
  induction k with
  | zero => exact .inl rfl
  | succ k ih =>
    rw [innTo]
    by_cases hf : oAt o k = n ∧ f k = true
    · rw [if_pos hf]
      rcases ih (by omega) with h | ⟨h, i, hi, he⟩
      · right; rw [h]; exact ⟨rfl, k, by omega, hf.1⟩
      · exfalso
        have := oAt_inj hn (i := i) (j := k) (by omega) (by omega) (by rw [he, hf.1])
        omega
    · rw [if_neg hf, List.append_nil]
      rcases ih (by omega) with h | ⟨h, i, hi, he⟩
      · exact .inl h
      · exact .inr ⟨h, i, by omega, he⟩
theorem refTo_mem (o : List Int) (f : Nat → Bool) (n : Nat) (x : Int) : x ∈ refTo o f n ↔ (0 ≤ x ∧ x < n) ∧ ∃ i, i < o.length ∧ oAt o i = x ∧ f i = true := by
  induction n with
  | zero => simp [refTo]; omega
  | succ n ih =>
    rw [refTo, List.mem_append, ih, innTo_mem]
    constructor
    · rintro (⟨h1, h2⟩ | ⟨rfl, h2⟩)
      · exact ⟨by omega, h2⟩
      · exact ⟨by omega, h2⟩
    · rintro ⟨h1, h2⟩
      by_cases hx : x = (n : Int)
      · right; subst hx; exact ⟨rfl, h2⟩
      · left; exact ⟨by omega, h2⟩
theorem refTo_asc (o : List Int) (f : Nat → Bool) (hn : o.Nodup) (n : Nat) : (refTo o f n).Pairwise (fun a b => a < b) := by
  induction n with
  | zero => simp [refTo]
  | succ n ih =>
    rw [refTo, List.pairwise_append]
    refine ⟨ih, ?_, ?_⟩
    · rcases innTo_short o f n hn o.length (Nat.le_refl _) with h | ⟨h, _⟩ <;> rw [h] <;> simp
    · intro a ha b hb
      have h1 := ((refTo_mem o f n a).1 ha).1
      have h2 := ((innTo_mem o f n o.length b).1 hb).1
      omega
theorem lateTo_nodup (o : List Int) (f : Nat → Bool) (hn : o.Nodup) (k : Nat) (hk : k ≤ o.length) : (lateTo o f k).Nodup := by
  induction k with
  | zero => simp [lateTo]
  | succ k ih =>
    rw [lateTo, List.nodup_append]
    refine ⟨ih (by omega), by split <;> simp, ?_⟩
    intro a ha b hb
    split at hb
    · simp at hb
      subst hb
      obtain ⟨i, h1, h2, _⟩ := (lateTo_mem o f k a).1 ha
      intro e
      have := oAt_inj hn (i := i) (j := k) (by omega) (by omega) (by rw [h2, e])
      omega
    · simp at hb
theorem asc_eq {a b : List Int} (ha : a.Pairwise (fun x y => x ≤ y)) (hb : b.Pairwise (fun x y => x < y)) (hp : a.Perm b) : a = b := by
  induction b generalizing a with
  | nil => exact hp.eq_nil
  | cons y t ih =>
    cases a with
    | nil => exact absurd hp.symm.eq_nil (by simp)
    | cons x s =>
      rw [List.pairwise_cons] at ha hb
      have e : x = y := by
        have hx : x ∈ y :: t := hp.subset (by simp)
        have hy : y ∈ x :: s := hp.symm.subset (by simp)
        rcases List.mem_cons.1 hx with h | h
        · exact h
        · have h1 := hb.1 x h
          rcases List.mem_cons.1 hy with h2 | h2
          · exact h2.symm
          · have := ha.1 y h2; omega
      subst e
      rw [ih ha.2 hb.2 ((List.perm_cons x).1 hp)]
theorem nodup_perm {a b : List Int} (ha : a.Nodup) (hb : b.Nodup) (h : ∀ x, x ∈ a ↔ x ∈ b) : a.Perm b := by
  rw [List.perm_iff_count]
  intro x
  have h1 := List.nodup_iff_count.1 ha x
  have h2 := List.nodup_iff_count.1 hb x
  by_cases hx : x ∈ a
  · have h3 := List.count_pos_iff.2 hx
    have h4 := List.count_pos_iff.2 ((h x).1 hx)
    omega
  · rw [List.count_eq_zero.2 hx, List.count_eq_zero.2 (fun hb => hx ((h x).2 hb))]
/-- Sorted, the late ones of all places are the late ones of all numbers. -/
theorem late_sorted {o : List Int} {n : Nat} (ho : IsOrd o n) (f : Nat → Bool) : (lateTo o f o.length).mergeSort (fun x y => decide (x ≤ y)) = refTo o f n := by
  refine asc_eq ?_ (refTo_asc o f ho.nodup n) ?_
  · have := List.pairwise_mergeSort (le := fun x y : Int => decide (x ≤ y)) (fun a b c h1 h2 => by simp at *; omega) (fun a b => by simp; omega) (lateTo o f o.length)
    exact this.imp (fun h => of_decide_eq_true h)
  · refine (List.mergeSort_perm _ _).trans (nodup_perm (lateTo_nodup o f ho.nodup _ (Nat.le_refl _)) ?_ (fun x => ?_))
    · exact (refTo_asc o f ho.nodup n).imp (fun h => by omega)
    · rw [lateTo_mem, refTo_mem]
      constructor
      · rintro ⟨i, h1, h2, h3⟩
        have := ho.mem (oAt_mem2 o i h1)
        exact ⟨by omega, i, h1, h2, h3⟩
      · rintro ⟨_, h⟩; exact h
theorem lateTo_len (o : List Int) (f : Nat → Bool) (k : Nat) : (lateTo o f k).length ≤ k := by
  induction k with
  | zero => simp [lateTo]
  | succ k ih => rw [lateTo, List.length_append]; split <;> simp <;> omega
theorem innTo_len (o : List Int) (f : Nat → Bool) (n : Int) (k : Nat) : (innTo o f n k).length ≤ k := by
  induction k with
  | zero => simp [innTo]
  | succ k ih => rw [innTo, List.length_append]; split <;> simp <;> omega
end Go.Proofs.Yteolckphafblmaa
