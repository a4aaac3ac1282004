/- Books of items and rules: which are valid. Plain functions. -/
import Derived.Test.YtdgleicpcjfnoaaRefM
set_option linter.unusedVariables false
namespace Go.Proofs.Ytdgleicpcjfnoaa

abbrev ItemL := List Int × List Int
abbrev RuleL := List Int × Int
def itemsE (P : Int) : Nat → List ItemL → Int
  | _, [] => 0
  | i, x :: t => if 6 < x.1.length then 4 else if isSetFrom 0 (i : Int) x.1 && isSetFrom 0 P x.2 then itemsE P (i + 1) t else 1
def ruleB (P : Int) (r : RuleL) : Bool := isSetFrom 0 P r.1 && decide (0 ≤ r.2 ∧ r.2 < P)
def rulesE (P : Int) : List RuleL → Int
  | [] => 0
  | r :: t => if ruleB P r then rulesE P t else 1
def validB (P : Int) (its : List ItemL) (rls : List RuleL) : Int :=
  if P < 0 ∨ 10 < P then 1 else if 20 < its.length ∨ 16 < rls.length then 4 else if itemsE P 0 its ≠ 0 then itemsE P 0 its else rulesE P rls
def checkIt (P : Int) (its : List ItemL) (rls : List RuleL) (item : Int) : Int :=
  if validB P its rls ≠ 0 then validB P its rls else if 0 ≤ item ∧ item < (its.length : Int) then 0 else 5
theorem itemsE_drop (P : Int) (xs : List ItemL) (k : Nat) (h : k < xs.length) : itemsE P k (xs.drop k) =
    if 6 < (xs[k]?.getD ([], [])).1.length then 4 else if isSetFrom 0 (k : Int) (xs[k]?.getD ([], [])).1 && isSetFrom 0 P (xs[k]?.getD ([], [])).2 then itemsE P (k + 1) (xs.drop (k + 1)) else 1 := by
  rw [List.drop_eq_getElem_cons h, itemsE]; simp [h]
theorem rulesE_drop (P : Int) (xs : List RuleL) (k : Nat) (h : k < xs.length) : rulesE P (xs.drop k) = if ruleB P (xs[k]?.getD ([], 0)) then rulesE P (xs.drop (k + 1)) else 1 := by
  rw [List.drop_eq_getElem_cons h, rulesE]; simp [h]
theorem itemsE_ok (P : Int) (xs : List ItemL) (i : Nat) (h : itemsE P i xs = 0) : ∀ k, k < xs.length → (xs[k]?.getD ([], [])).1.length ≤ 6 ∧ isSetFrom 0 ((i + k : Nat) : Int) (xs[k]?.getD ([], [])).1 = true ∧ isSetFrom 0 P (xs[k]?.getD ([], [])).2 = true := by
  induction xs generalizing i with
  | nil => intro k hk; simp at hk
  | cons x t ih =>
    rw [itemsE] at h
    split at h
    · simp at h
    · rename_i h1
      split at h
      · rename_i h2
        rw [Bool.and_eq_true] at h2
        intro k hk
        cases k with
        | zero => simp; exact ⟨by omega, h2.1, h2.2⟩
        | succ k =>
          have := ih (i + 1) h k (by simpa using hk)
          rw [show i + 1 + k = i + (k + 1) by omega] at this
          simpa using this
      · simp at h
theorem rulesE_ok (P : Int) (xs : List RuleL) (h : rulesE P xs = 0) : ∀ k, k < xs.length → isSetFrom 0 P (xs[k]?.getD ([], 0)).1 = true ∧ 0 ≤ (xs[k]?.getD ([], 0)).2 ∧ (xs[k]?.getD ([], 0)).2 < P := by
  induction xs with
  | nil => intro k hk; simp at hk
  | cons x t ih =>
    rw [rulesE] at h
    split at h
    · rename_i h2
      rw [ruleB, Bool.and_eq_true, decide_eq_true_iff] at h2
      intro k hk
      cases k with
      | zero => simp; exact h2
      | succ k => simpa using ih h k (by simpa using hk)
    · simp at h
theorem validB_ok {P : Int} {its : List ItemL} {rls : List RuleL} (h : validB P its rls = 0) : 0 ≤ P ∧ P ≤ 10 ∧ its.length ≤ 20 ∧ rls.length ≤ 16 ∧ itemsE P 0 its = 0 ∧ rulesE P rls = 0 := by
  unfold validB at h
  split at h
  · simp at h
  · split at h
    · simp at h
    · split at h
      · rename_i h3; exact absurd h h3
      · rename_i h3; exact ⟨by omega, by omega, by omega, by omega, by simpa using h3, h⟩
theorem checkIt_ok {P : Int} {its : List ItemL} {rls : List RuleL} {item : Int} (h : checkIt P its rls item = 0) : validB P its rls = 0 ∧ 0 ≤ item ∧ item < (its.length : Int) := by
  unfold checkIt at h
  split at h
  · rename_i h1; exact absurd h h1
  · rename_i h1
    split at h
    · rename_i h2; exact ⟨by simpa using h1, h2⟩
    · simp at h

end Go.Proofs.Ytdgleicpcjfnoaa
