/- Which books are long: plain functions. -/
import Derived.Test.YtdgleicpcjfnoaaBookM
set_option linter.unusedVariables false
namespace Go.Proofs.Ytdgleicpcjfnoaa

def longI : List ItemL → Bool
  | [] => false
  | x :: t => decide (40 < x.1.length ∨ 40 < x.2.length) || longI t
def longR : List RuleL → Bool
  | [] => false
  | x :: t => decide (40 < x.1.length) || longR t
def longBk (its : List ItemL) (rls : List RuleL) : Bool := decide (60 < its.length ∨ 60 < rls.length) || longI its || longR rls
theorem longI_drop (xs : List ItemL) (k : Nat) (h : k < xs.length) : longI (xs.drop k) = (decide (40 < (xs[k]?.getD ([], [])).1.length ∨ 40 < (xs[k]?.getD ([], [])).2.length) || longI (xs.drop (k + 1))) := by
  rw [List.drop_eq_getElem_cons h, longI]; simp [h]
theorem longR_drop (xs : List RuleL) (k : Nat) (h : k < xs.length) : longR (xs.drop k) = (decide (40 < (xs[k]?.getD ([], 0)).1.length) || longR (xs.drop (k + 1))) := by
  rw [List.drop_eq_getElem_cons h, longR]; simp [h]
theorem longI_false {xs : List ItemL} (h : longI xs = false) : ∀ i, i < xs.length → (xs[i]?.getD ([], [])).1.length ≤ 40 ∧ (xs[i]?.getD ([], [])).2.length ≤ 40 := by
  induction xs with
  | nil => intro i hi; simp at hi
  | cons x t ih =>
    rw [longI, Bool.or_eq_false_iff] at h
    intro i hi
    cases i with
    | zero => have := h.1; simp at this; simpa using this
    | succ i => simpa using ih h.2 i (by simpa using hi)
theorem longR_false {xs : List RuleL} (h : longR xs = false) : ∀ i, i < xs.length → (xs[i]?.getD ([], 0)).1.length ≤ 40 := by
  induction xs with
  | nil => intro i hi; simp at hi
  | cons x t ih =>
    rw [longR, Bool.or_eq_false_iff] at h
    intro i hi
    cases i with
    | zero => have := h.1; simp at this; simpa using this
    | succ i => simpa using ih h.2 i (by simpa using hi)
end Go.Proofs.Ytdgleicpcjfnoaa
