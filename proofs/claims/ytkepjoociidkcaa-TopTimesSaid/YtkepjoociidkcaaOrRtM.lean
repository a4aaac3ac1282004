/- Rights to free meals: plain mathematics. -/
import Derived.Test.YtkepjoociidkcaaOrM
set_option linter.unusedVariables false
namespace Go.Proofs.Ytkepjoociidkcaa

structure Rgt where
  c : Int
  f : Int
  t : Int
def rgt0 : Rgt := ⟨0, 0, 0⟩
def gAt (r : List Rgt) (i : Nat) : Rgt := r[i]?.getD rgt0
theorem gAt_mem (r : List Rgt) (i : Nat) (h : i < r.length) : gAt r i ∈ r := by
  unfold gAt; rw [List.getElem?_eq_getElem h]; simp
def rightB (x : Rgt) : Bool := inI x.c 0 99 && (strB x.f x.t && decide (x.f < x.t))
def dayB (f t : Int) : Bool := decide (0 ≤ f) && (decide (f < t) && decide (t ≤ 1000))
theorem rightB_days (x : Rgt) : rightB x = (inI x.c 0 99 && dayB x.f x.t) := by
  rw [Bool.eq_iff_iff]; simp [rightB, strB, dayB]; omega
theorem rightB_iff {x : Rgt} : rightB x = true ↔ (0 ≤ x.c ∧ x.c ≤ 99) ∧ 0 ≤ x.f ∧ x.f < x.t ∧ x.t ≤ 1000 := by
  simp [rightB, inI, strB]; omega
def okR : List Rgt → Bool
  | [] => true
  | x :: r => rightB x && okR r
theorem okR_drop (r : List Rgt) (k : Nat) (h : k < r.length) : okR (r.drop k) = (rightB (gAt r k) && okR (r.drop (k + 1))) := by
  unfold gAt
  rw [List.drop_eq_getElem_cons h, List.getElem?_eq_getElem h]
  rfl
theorem okR_mem {r : List Rgt} (h : okR r = true) : ∀ x ∈ r, rightB x = true := by
  induction r with
  | nil => simp
  | cons y t ih =>
    simp only [okR, Bool.and_eq_true] at h
    intro x hx
    rcases List.mem_cons.1 hx with rfl | hx
    · exact h.1
    · exact ih h.2 x hx
def rightsE (r : List Rgt) : Int := if 60 < r.length then 4 else if okR r = true then 0 else 1
theorem rightsE_ok {r : List Rgt} (h : rightsE r = 0) : r.length ≤ 60 ∧ okR r = true := by
  unfold rightsE at h
  split at h
  · omega
  · split at h
    · exact ⟨by omega, by assumption⟩
    · omega
def hasB (x : Rgt) (c d : Int) : Bool := decide (x.c = c) && (decide (x.f ≤ d) && decide (d < x.t))
def freeL (c d : Int) : List Rgt → Bool
  | [] => false
  | x :: r => hasB x c d || freeL c d r
theorem freeL_drop (c d : Int) (r : List Rgt) (k : Nat) (h : k < r.length) : freeL c d (r.drop k) = (hasB (gAt r k) c d || freeL c d (r.drop (k + 1))) := by
  unfold gAt
  rw [List.drop_eq_getElem_cons h, List.getElem?_eq_getElem h]
  rfl
/-- The prices: nine, each from 0 to 10000. -/
def allP : List Int → Bool
  | [] => true
  | x :: r => inI x 0 10000 && allP r
theorem allP_drop (p : List Int) (k : Nat) (h : k < p.length) : allP (p.drop k) = (inI (p[k]?.getD 0) 0 10000 && allP (p.drop (k + 1))) := by
  rw [List.drop_eq_getElem_cons h, List.getElem?_eq_getElem h]
  rfl
theorem allP_at {p : List Int} (h : allP p = true) (k : Nat) (hk : k < p.length) : 0 ≤ p[k]?.getD 0 ∧ p[k]?.getD 0 ≤ 10000 := by
  induction p generalizing k with
  | nil => simp at hk
  | cons x t ih =>
    simp only [allP, Bool.and_eq_true] at h
    cases k with
    | zero => simpa [inI] using h.1
    | succ k => simpa using ih h.2 k (by simpa using hk)
def pricesB (p : List Int) : Bool := allP p && decide (p.length = 9)
def priceL (p : List Int) (m : Int) : Int := if m = 0 then 0 else p[(m - 1).toNat]?.getD 0
theorem priceL_bd {p : List Int} (h : pricesB p = true) (m : Int) (h0 : 0 ≤ m) (h9 : m ≤ 9) : 0 ≤ priceL p m ∧ priceL p m ≤ 10000 := by
  simp [pricesB] at h
  unfold priceL
  split
  · omega
  · exact allP_at h.1 _ (by omega)
end Go.Proofs.Ytkepjoociidkcaa
