/- What is paid: plain mathematics. -/
import Derived.Test.YtkepjoociidkcaaOrRtM
import Derived.Test.YtkepjoociidkcaaOrKidM
set_option linter.unusedVariables false
namespace Go.Proofs.Ytkepjoociidkcaa

def sumZ (g : Nat → Int) : Nat → Int
  | 0 => 0
  | k + 1 => sumZ g k + g k
theorem sumZ_split (g : Nat → Int) (a b : Nat) : sumZ g (a + b) = sumZ g a + sumZ (fun i => g (a + i)) b := by
  induction b with
  | zero => show sumZ g a = sumZ g a + 0; omega
  | succ b ih => show sumZ g (a + b) + g (a + b) = sumZ g a + (sumZ (fun i => g (a + i)) b + g (a + b)); rw [ih]; omega
theorem sumZ_bd (g : Nat → Int) (M : Int) (k : Nat) (h : ∀ j, j < k → 0 ≤ g j ∧ g j ≤ M) (hM : 0 ≤ M) : 0 ≤ sumZ g k ∧ sumZ g k ≤ (k : Int) * M := by
  induction k with
  | zero => exact ⟨Int.le_refl _, by show (0 : Int) ≤ (0 : Nat) * M; simp⟩
  | succ k ih =>
    have h1 := ih (fun j hj => h j (by omega))
    have h2 := h k (by omega)
    have e : ((k + 1 : Nat) : Int) * M = (k : Int) * M + M := by rw [Int.natCast_add, Int.add_mul]; simp
    show 0 ≤ sumZ g k + g k ∧ sumZ g k + g k ≤ _
    rw [e]
    omega
def maxI (x y : Int) : Int := if x < y then y else x
def payOne (l : List Fct) (r : List Rgt) (p : List Int) (cut c d : Int) : Int :=
  if freeL c d r = true then 0 else maxI (priceL p (mealK l c d (cutL (d * 1440 - cut) l))) (priceL p (mealK l c d l.length))
def paySum (l : List Fct) (r : List Rgt) (p : List Int) (cut c f : Int) (k : Nat) : Int := sumZ (fun j => payOne l r p cut c (f + (j : Int))) k
theorem maxI_bd {x y M : Int} (hx : 0 ≤ x ∧ x ≤ M) (hy : 0 ≤ y ∧ y ≤ M) : 0 ≤ maxI x y ∧ maxI x y ≤ M := by
  unfold maxI; split <;> omega
theorem payOne_bd {l : List Fct} {p : List Int} (hf : ∀ f ∈ l, factB f = true) (hp : pricesB p = true) (r : List Rgt) (cut c d : Int) : 0 ≤ payOne l r p cut c d ∧ payOne l r p cut c d ≤ 10000 := by
  unfold payOne
  split
  · omega
  · have h1 := mealK_bd hf c d (cutL (d * 1440 - cut) l) (cutL_le _ _)
    have h2 := mealK_bd hf c d l.length (Nat.le_refl _)
    exact maxI_bd (priceL_bd hp _ h1.1 h1.2) (priceL_bd hp _ h2.1 h2.2)
theorem paySum_bd {l : List Fct} {p : List Int} (hf : ∀ f ∈ l, factB f = true) (hp : pricesB p = true) (r : List Rgt) (cut c f : Int) (k : Nat) : 0 ≤ paySum l r p cut c f k ∧ paySum l r p cut c f k ≤ (k : Int) * 10000 :=
  sumZ_bd _ 10000 k (fun j _ => payOne_bd hf hp r cut c _) (by omega)
theorem paySum_split (l : List Fct) (r : List Rgt) (p : List Int) (cut c f : Int) (a b : Nat) : paySum l r p cut c f (a + b) = paySum l r p cut c f a + paySum l r p cut c (f + (a : Int)) b := by
  unfold paySum
  rw [sumZ_split]
  congr 1
  have e : ∀ k, sumZ (fun i => payOne l r p cut c (f + ((a + i : Nat) : Int))) k = sumZ (fun j => payOne l r p cut c (f + (a : Int) + (j : Int))) k := by
    intro k
    induction k with
    | zero => rfl
    | succ k ih => show sumZ _ k + payOne l r p cut c (f + ((a + k : Nat) : Int)) = sumZ _ k + payOne l r p cut c (f + (a : Int) + (k : Int)); rw [ih, show f + ((a + k : Nat) : Int) = f + (a : Int) + (k : Int) by omega]
  exact e b
/-- At the last minute all facts are written. -/
theorem cut_all {l : List Fct} (hf : ∀ f ∈ l, factB f = true) : cutL 1440000 l = l.length := by
  induction l with
  | nil => rfl
  | cons x t ih =>
    have := (factB_iff.1 (hf x (by simp))).1
    unfold cutL
    rw [if_pos (by omega), ih (fun f h => hf f (by simp [h]))]
    rfl
def billE (l : List Fct) (r : List Rgt) (p : List Int) (cut : Int) : Int := if validE l = 0 then (if rightsE r = 0 then (if pricesB p = true ∧ inI cut 0 10000 = true then 0 else 1) else rightsE r) else validE l
def payE (l : List Fct) (r : List Rgt) (p : List Int) (cut : Int) (b : Bool) : Int := if billE l r p cut = 0 then (if b = true then 0 else 1) else billE l r p cut
theorem billE_ok {l : List Fct} {r : List Rgt} {p : List Int} {cut : Int} (h : billE l r p cut = 0) : validE l = 0 ∧ rightsE r = 0 ∧ pricesB p = true ∧ inI cut 0 10000 = true := by
  unfold billE at h
  split at h
  · split at h
    · split at h
      · rename_i a b c; exact ⟨a, b, c.1, c.2⟩
      · omega
    · rename_i a b; exact absurd h b
  · rename_i a; exact absurd h a
theorem payE_ok {l : List Fct} {r : List Rgt} {p : List Int} {cut : Int} {b : Bool} (h : payE l r p cut b = 0) : billE l r p cut = 0 ∧ b = true := by
  unfold payE at h
  split at h
  · split at h
    · exact ⟨by assumption, by assumption⟩
    · omega
  · rename_i a; exact absurd h a
end Go.Proofs.Ytkepjoociidkcaa
