/- Searching in lists of integers: plain functions. -/
import Derived.Test.YtdgleicpcjfnoaaValidM
set_option linter.unusedVariables false
namespace Go.Proofs.Ytdgleicpcjfnoaa

def idxL (v : Int) : List Int → Nat → Int
  | [], _ => -1
  | x :: t, k => if v = x then (k : Int) else idxL v t (k + 1)
theorem idxL_drop (v : Int) (xs : List Int) (k : Nat) (h : k < xs.length) :
    idxL v (xs.drop k) k = if v = xs[k]?.getD 0 then (k : Int) else idxL v (xs.drop (k + 1)) (k + 1) := by
  rw [List.drop_eq_getElem_cons h, idxL]; simp [h]
theorem idxL_lo (v : Int) (xs : List Int) (k : Nat) : -1 ≤ idxL v xs k := by
  induction xs generalizing k with
  | nil => simp [idxL]
  | cons x t ih => rw [idxL]; split
                   · omega
                   · exact ih _
theorem idxL_mem (v : Int) (xs : List Int) (k : Nat) : 0 ≤ idxL v xs k ↔ v ∈ xs := by
  induction xs generalizing k with
  | nil => simp [idxL]
  | cons x t ih =>
    rw [idxL]; split
    · rename_i h; simp [h]
    · rename_i h; rw [ih]; simp [h]
def memB (v : Int) (xs : List Int) : Bool := decide (v ∈ xs)

/-- Strictly ascending. -/
def Asc (xs : List Int) : Prop := ∀ i j, i < j → j < xs.length → xs[i]?.getD 0 < xs[j]?.getD 0

theorem isSetFrom_ge (l e : Int) (xs : List Int) (h : isSetFrom l e xs = true) : ∀ x ∈ xs, l ≤ x ∧ x < e := by
  induction xs generalizing l with
  | nil => intro x hx; cases hx
  | cons y t ih =>
    rw [isSetFrom] at h
    split at h
    · simp at h
    · intro x hx
      rcases List.mem_cons.1 hx with rfl | hx
      · omega
      · have := ih _ h x hx; omega
theorem isSetFrom_asc (l e : Int) (xs : List Int) (h : isSetFrom l e xs = true) : Asc xs := by
  induction xs generalizing l with
  | nil => intro i j _ hj; simp at hj
  | cons y t ih =>
    rw [isSetFrom] at h
    split at h
    · simp at h
    · intro i j hij hj
      cases j with
      | zero => omega
      | succ j =>
        have hj' : j < t.length := by simpa using hj
        cases i with
        | zero =>
          have := isSetFrom_ge _ _ _ h (t[j]?.getD 0) (by rw [List.getElem?_eq_getElem hj']; simp)
          simp only [List.getElem?_cons_zero, List.getElem?_cons_succ, Option.getD_some]
          omega
        | succ i => simpa using ih _ h i j (by omega) hj'

end Go.Proofs.Ytdgleicpcjfnoaa
