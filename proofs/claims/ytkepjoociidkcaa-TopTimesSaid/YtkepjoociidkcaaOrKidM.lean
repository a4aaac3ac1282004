/- Which children have a meal, and sums: plain mathematics. -/
import Derived.Test.YtkepjoociidkcaaOrM
set_option linter.unusedVariables false
namespace Go.Proofs.Ytkepjoociidkcaa

def kidsTo (g : Int → Int) (m : Int) : Nat → List Int
  | 0 => []
  | k + 1 => if g (k : Int) = m then kidsTo g m k ++ [(k : Int)] else kidsTo g m k
theorem kidsTo_len (g : Int → Int) (m : Int) (k : Nat) : (kidsTo g m k).length ≤ k := by
  induction k with
  | zero => simp [kidsTo]
  | succ k ih => unfold kidsTo; split <;> (try rw [List.length_append, List.length_singleton]) <;> omega
theorem kidsTo_bd (g : Int → Int) (m : Int) (k : Nat) : ∀ x ∈ kidsTo g m k, 0 ≤ x ∧ x < (k : Int) := by
  induction k with
  | zero => simp [kidsTo]
  | succ k ih =>
    intro x hx
    unfold kidsTo at hx
    split at hx
    · rcases List.mem_append.1 hx with h | h
      · have := ih x h; omega
      · simp at h; omega
    · have := ih x hx; omega
def sumN (f : Nat → Nat) : Nat → Nat
  | 0 => 0
  | k + 1 => sumN f k + f k
theorem sumN_congr {f g : Nat → Nat} (k : Nat) (h : ∀ i, i < k → f i = g i) : sumN f k = sumN g k := by
  induction k with
  | zero => rfl
  | succ k ih => unfold sumN; rw [ih (fun i hi => h i (by omega)), h k (by omega)]
theorem sumN_add (f g : Nat → Nat) (k : Nat) : sumN (fun i => f i + g i) k = sumN f k + sumN g k := by
  induction k with
  | zero => rfl
  | succ k ih => unfold sumN; rw [ih]; omega
theorem sumN_zero (k : Nat) : sumN (fun _ => 0) k = 0 := by
  induction k with
  | zero => rfl
  | succ k ih => unfold sumN; rw [ih]
theorem sumN_comm (f : Nat → Nat → Nat) (n m : Nat) : sumN (fun i => sumN (fun j => f i j) m) n = sumN (fun j => sumN (fun i => f i j) n) m := by
  induction n with
  | zero => exact (sumN_zero m).symm
  | succ n ih =>
    show sumN (fun i => sumN (fun j => f i j) m) n + sumN (fun j => f n j) m = _
    rw [ih, ← sumN_add]
    rfl
theorem sumN_split (f : Nat → Nat) (a b : Nat) : sumN f (a + b) = sumN f a + sumN (fun i => f (a + i)) b := by
  induction b with
  | zero => rfl
  | succ b ih => show sumN f (a + b) + f (a + b) = _; rw [ih]; show _ = sumN f a + (sumN (fun i => f (a + i)) b + f (a + b)); omega
theorem sumN_one (x : Int) (M : Nat) : sumN (fun m => if x = (m : Int) then 1 else 0) M = if 0 ≤ x ∧ x < (M : Int) then 1 else 0 := by
  induction M with
  | zero => show 0 = _; rw [if_neg (by omega)]
  | succ M ih =>
    show sumN _ M + (if x = (M : Int) then 1 else 0) = _
    rw [ih]
    by_cases h : x = (M : Int)
    · rw [if_pos h, if_neg (by omega), if_pos (by omega)]
    · rw [if_neg h]
      by_cases h2 : 0 ≤ x ∧ x < (M : Int)
      · rw [if_pos h2, if_pos (by omega)]
      · rw [if_neg h2, if_neg (by omega)]
theorem kidsTo_succ_len (g : Int → Int) (m : Int) (k : Nat) : (kidsTo g m (k + 1)).length = (kidsTo g m k).length + if g (k : Int) = m then 1 else 0 := by
  show (if _ then _ else _ : List Int).length = _
  split <;> simp
theorem kids_all (g : Int → Int) (h : ∀ c : Int, 0 ≤ g c ∧ g c ≤ 9) (k : Nat) : sumN (fun m => (kidsTo g (m : Int) k).length) 10 = k := by
  induction k with
  | zero => show sumN (fun _ => 0) 10 = 0; rw [sumN_zero]
  | succ k ih =>
    rw [sumN_congr 10 (fun i _ => kidsTo_succ_len g (i : Int) k), sumN_add, ih, sumN_one]
    have := h (k : Int)
    rw [if_pos (by omega)]
theorem kids_sum (g : Int → Int) (m : Int) (k : Nat) : (kidsTo g m k).length = sumN (fun c => if g (c : Int) = m then 1 else 0) k := by
  induction k with
  | zero => rfl
  | succ k ih => rw [kidsTo_succ_len, ih]; rfl
/-- Meals lie between 0 and 9. -/
theorem mealK_bd {l : List Fct} (hf : ∀ f ∈ l, factB f = true) (c d : Int) (n : Nat) (hn : n ≤ l.length) : 0 ≤ mealK l c d n ∧ mealK l c d n ≤ 9 := by
  unfold mealK
  cases h : whyTo l c d n with
  | none => exact ⟨Int.le_refl (0 : Int), show (0 : Int) ≤ 9 by omega⟩
  | some i =>
    have := (factB_iff.1 (hf _ (fAt_mem l i (by have := (whyTo_lt h).1; omega)))).2.2.2
    exact this
end Go.Proofs.Ytkepjoociidkcaa
