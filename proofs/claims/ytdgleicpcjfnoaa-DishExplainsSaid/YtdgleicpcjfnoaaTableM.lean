/- Tables of children and dishes: plain functions. -/
import Derived.Test.YtdgleicpcjfnoaaProofN
set_option linter.unusedVariables false
namespace Go.Proofs.Ytdgleicpcjfnoaa

def choiceB (s n : Int) : Bool := decide (0 ≤ s ∧ s < ((2 ^ n.toNat : Nat) : Int))
def allChoice (d : Int) : List Int → Bool
  | [] => true
  | x :: t => choiceB x d && allChoice d t
def validTab (rows : List Int) (d : Int) : Int :=
  if d < 0 ∨ 8 < d then 1 else if 8 < rows.length then 4 else if allChoice d rows then 0 else 1
theorem allChoice_drop (d : Int) (xs : List Int) (k : Nat) (h : k < xs.length) : allChoice d (xs.drop k) = (choiceB (xs[k]?.getD 0) d && allChoice d (xs.drop (k + 1))) := by
  rw [List.drop_eq_getElem_cons h, allChoice]; simp [h]
theorem allChoice_mem (d : Int) (xs : List Int) (h : allChoice d xs = true) : ∀ x ∈ xs, 0 ≤ x ∧ x < ((2 ^ d.toNat : Nat) : Int) := by
  induction xs with
  | nil => intro x hx; cases hx
  | cons y t ih =>
    rw [allChoice, Bool.and_eq_true] at h
    intro x hx
    rcases List.mem_cons.1 hx with rfl | hx
    · simpa [choiceB] using h.1
    · exact ih h.2 x hx
theorem validTab_ok {rows : List Int} {d : Int} (h : validTab rows d = 0) : 0 ≤ d ∧ d ≤ 8 ∧ rows.length ≤ 8 ∧ ∀ x ∈ rows, 0 ≤ x ∧ x < ((2 ^ d.toNat : Nat) : Int) := by
  unfold validTab at h
  split at h
  · simp at h
  · split at h
    · simp at h
    · split at h
      · rename_i h3; exact ⟨by omega, by omega, by omega, allChoice_mem d rows h3⟩
      · simp at h

def feedsB (m : Nat) : List Int → Bool
  | [] => true
  | x :: t => decide (x.toNat &&& m ≠ 0) && feedsB m t
theorem feedsB_drop (m : Nat) (xs : List Int) (k : Nat) (h : k < xs.length) : feedsB m (xs.drop k) = (decide ((xs[k]?.getD 0).toNat &&& m ≠ 0) && feedsB m (xs.drop (k + 1))) := by
  rw [List.drop_eq_getElem_cons h, feedsB]; simp [h]
theorem feedsB_iff (m : Nat) (xs : List Int) : feedsB m xs = true ↔ ∀ x ∈ xs, x.toNat &&& m ≠ 0 := by
  induction xs with
  | nil => simp [feedsB]
  | cons x t ih => rw [feedsB, Bool.and_eq_true, ih]; simp
/-- A set without one number. -/
def without (m x : Nat) : Nat := m &&& (2 ^ 64 - 1 - 2 ^ x)
def spareB (rows : List Int) (m : Nat) : List Int → Bool
  | [] => false
  | x :: t => feedsB (without m x.toNat) rows || spareB rows m t
theorem spareB_drop (rows : List Int) (m : Nat) (xs : List Int) (k : Nat) (h : k < xs.length) : spareB rows m (xs.drop k) = (feedsB (without m (xs[k]?.getD 0).toNat) rows || spareB rows m (xs.drop (k + 1))) := by
  rw [List.drop_eq_getElem_cons h, spareB]; simp [h]
theorem spareB_iff (rows : List Int) (m : Nat) (xs : List Int) : spareB rows m xs = true ↔ ∃ x ∈ xs, feedsB (without m x.toNat) rows = true := by
  induction xs with
  | nil => simp [spareB]
  | cons x t ih => rw [spareB, Bool.or_eq_true, ih]; simp
def goodMenu (rows : List Int) (m : Nat) : Bool := feedsB m rows && !spareB rows m (bitsTo m 64)
def menusTo (rows : List Int) : Nat → List Int
  | 0 => []
  | m + 1 => menusTo rows m ++ (if goodMenu rows m then [(m : Int)] else [])
theorem menusTo_len (rows : List Int) (n : Nat) : (menusTo rows n).length ≤ n := by
  induction n with
  | zero => simp [menusTo]
  | succ n ih => rw [menusTo]; split <;> simp <;> omega
theorem menusTo_bd (rows : List Int) (n : Nat) : ∀ x ∈ menusTo rows n, 0 ≤ x ∧ x < n := by
  induction n with
  | zero => intro x hx; cases hx
  | succ n ih =>
    intro x hx
    rw [menusTo] at hx
    rcases List.mem_append.1 hx with hx | hx
    · have := ih x hx; omega
    · split at hx
      · simp at hx; omega
      · cases hx
def menusR (rows : List Int) (d : Int) : List Int × Int :=
  if validTab rows d ≠ 0 then ([], validTab rows d) else (menusTo rows (2 ^ d.toNat), 0)
theorem pow_le_256 {d : Int} (h0 : 0 ≤ d) (h1 : d ≤ 8) : 2 ^ d.toNat ≤ 256 := by
  have : d.toNat ≤ 8 := by omega
  exact Nat.pow_le_pow_right (by omega) this

end Go.Proofs.Ytdgleicpcjfnoaa
