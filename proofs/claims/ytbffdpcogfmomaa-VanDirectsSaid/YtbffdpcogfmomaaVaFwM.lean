/- The smallest sums of ways over other places, as they are made place by place. Plain mathematics. -/
import Derived.Test.YtbffdpcogfmomaaVaM
set_option linter.unusedVariables false
namespace Go.Proofs.Ytbffdpcogfmomaa

def fwM (t : Tbl) : Nat → Nat → Nat → Int
  | 0, i, j => tA t i j
  | k + 1, i, j => min (fwM t k i j) (fwM t k i k + fwM t k k j)
theorem fwM_succ (t : Tbl) (k i j : Nat) : fwM t (k + 1) i j = min (fwM t k i j) (fwM t k i k + fwM t k k j) := rfl
theorem fwM_bd {t : Tbl} (ht : Ways t) : ∀ k, k ≤ t.length → ∀ i j, i < t.length → j < t.length → 0 ≤ fwM t k i j ∧ fwM t k i j ≤ 1000 := by
  intro k
  induction k with
  | zero => intro _ i j hi hj; exact ht.bd i j hi hj
  | succ k ih =>
    intro hk i j hi hj
    have h1 := ih (by omega) i j hi hj
    have h2 := ih (by omega) i k hi (by omega)
    have h3 := ih (by omega) k j (by omega) hj
    rw [fwM_succ]
    omega
theorem fwM_diag {t : Tbl} (ht : Ways t) : ∀ k, k ≤ t.length → ∀ i, i < t.length → fwM t k i i = 0 := by
  intro k
  induction k with
  | zero => intro _ i hi; exact ht.diag i hi
  | succ k ih =>
    intro hk i hi
    have h1 := ih (by omega) i hi
    have h2 := fwM_bd ht k (by omega) i k hi (by omega)
    have h3 := fwM_bd ht k (by omega) k i (by omega) hi
    rw [fwM_succ]
    omega
theorem fwM_row {t : Tbl} (ht : Ways t) (k : Nat) (hk : k < t.length) (j : Nat) (hj : j < t.length) : fwM t (k + 1) k j = fwM t k k j := by
  have h1 := fwM_diag ht k (by omega) k hk
  rw [fwM_succ]
  omega
theorem fwM_col {t : Tbl} (ht : Ways t) (k : Nat) (hk : k < t.length) (i : Nat) (hi : i < t.length) : fwM t (k + 1) i k = fwM t k i k := by
  have h1 := fwM_diag ht k (by omega) k hk
  rw [fwM_succ]
  omega
theorem fwM_tri {t : Tbl} (ht : Ways t) : ∀ k, k ≤ t.length → ∀ v i j, v < k → i < t.length → j < t.length → fwM t k i j ≤ fwM t k i v + fwM t k v j := by
  intro k
  induction k with
  | zero => intro _ v i j hv; omega
  | succ k ih =>
    intro hk v i j hv hi hj
    have a1 := fwM_bd ht k (by omega) i k hi (by omega)
    have a2 := fwM_bd ht k (by omega) k j (by omega) hj
    by_cases e : v = k
    · subst e
      rw [fwM_col ht v (by omega) i hi, fwM_row ht v (by omega) j hj, fwM_succ]
      omega
    · have h1 := ih (by omega) v i j (by omega) hi hj
      have h2 := ih (by omega) v i k (by omega) hi (by omega)
      have h3 := ih (by omega) v k j (by omega) (by omega) hj
      have a3 := fwM_bd ht k (by omega) k v (by omega) (by omega)
      have a4 := fwM_bd ht k (by omega) v k (by omega) (by omega)
      simp only [fwM_succ]
      omega
/-- What the map holds: the numbers of all pairs of n places. -/
def mapF (n : Nat) (g : Nat → Nat → Int) : Nat → Nat → Option Int := fun i j => if i < n ∧ j < n then some (g i j) else none
/-- What stands in it within a turn. -/
def stF (t : Tbl) (k f o i j : Nat) : Int := if i < f ∨ (i = f ∧ j < o) then fwM t (k + 1) i j else fwM t k i j
theorem stF_start (t : Tbl) (k : Nat) : stF t k 0 0 = fwM t k := by funext i j; simp [stF]
theorem stF_row {t : Tbl} {k f : Nat} {i j : Nat} (hj : j < t.length) : stF t k f t.length i j = stF t k (f + 1) 0 i j := by
  unfold stF
  by_cases h : i < f ∨ (i = f ∧ j < t.length)
  · rw [if_pos h, if_pos (by omega)]
  · rw [if_neg h, if_neg (by omega)]
theorem stF_end {t : Tbl} {k : Nat} {i j : Nat} (hi : i < t.length) : stF t k t.length 0 i j = fwM t (k + 1) i j := by
  unfold stF
  rw [if_pos (.inl hi)]
theorem stF_col {t : Tbl} (ht : Ways t) {k f o i : Nat} (hk : k < t.length) (hi : i < t.length) : stF t k f o i k = fwM t k i k := by
  unfold stF
  split
  · exact fwM_col ht k hk i hi
  · rfl
theorem stF_rowk {t : Tbl} (ht : Ways t) {k f o j : Nat} (hk : k < t.length) (hj : j < t.length) : stF t k f o k j = fwM t k k j := by
  unfold stF
  split
  · exact fwM_row ht k hk j hj
  · rfl
theorem stF_at (t : Tbl) (k f o : Nat) : stF t k f o f o = fwM t k f o := by
  unfold stF
  rw [if_neg (by omega)]
theorem stF_put (t : Tbl) (k f o i j : Nat) : stF t k f (o + 1) i j = if i = f ∧ j = o then fwM t (k + 1) f o else stF t k f o i j := by
  unfold stF
  by_cases h : i = f ∧ j = o
  · obtain ⟨rfl, rfl⟩ := h
    rw [if_pos (.inr ⟨rfl, by omega⟩), if_pos ⟨rfl, rfl⟩]
  · rw [if_neg h]
    by_cases h2 : i < f ∨ (i = f ∧ j < o)
    · rw [if_pos h2, if_pos (by omega)]
    · rw [if_neg h2, if_neg (by omega)]
/-- What has been filled in. -/
def filF (t : Tbl) (f o : Nat) : Nat → Nat → Option Int := fun i j => if i < t.length ∧ j < t.length ∧ (i < f ∨ (i = f ∧ j < o)) then some (tA t i j) else none
end Go.Proofs.Ytbffdpcogfmomaa
