/- What a proof is answered: plain mathematics. -/
import Derived.Test.YtdgleicpcjfnoaaProofM
import Derived.Test.YtdgleicpcjfnoaaLabM
set_option linter.unusedVariables false
namespace Go.Proofs.Ytdgleicpcjfnoaa

def propE (P : Int) (its : List ItemL) (rls : List RuleL) (item prop : Int) : Int := if checkIt P its rls item = 0 then (if 0 ≤ prop ∧ prop < P then 0 else 5) else checkIt P its rls item
/-- The property of the last step; -1 if there is none. -/
def lastP (l : List StepL) : Int := (l.getLast?.map (·.1)).getD (-1)
def proofE (P : Int) (its : List ItemL) (rls : List RuleL) (item prop : Int) (l : List StepL) : Int :=
  if propE P its rls item prop ≠ 0 then propE P its rls item prop else if 40 < l.length then 4 else if stepsB its rls (contL its item.toNat) 0 l = false then 8 else if lastP l = prop then 0 else 8
theorem propE_ok {P : Int} {its : List ItemL} {rls : List RuleL} {item prop : Int} (h : propE P its rls item prop = 0) : validB P its rls = 0 ∧ (0 ≤ item ∧ item < (its.length : Int)) ∧ 0 ≤ prop ∧ prop < P := by
  unfold propE at h
  split at h
  · rename_i h1
    obtain ⟨a, b, c⟩ := checkIt_ok h1
    split at h
    · rename_i h2; exact ⟨a, ⟨b, c⟩, h2⟩
    · cases h
  · rename_i h1; exact absurd h h1
theorem stepB_ok {P : Int} {its : List ItemL} {rls : List RuleL} {C M : Nat} {s : StepL} (hv : validB P its rls = 0) (h : stepB its rls C M s = true) : 0 ≤ s.1 ∧ s.1 < P := by
  obtain ⟨v0, v1, v2, v3, v4, v5⟩ := validB_ok hv
  unfold stepB at h
  split at h
  · simp at h
    obtain ⟨h0, h1, _, h3⟩ := h
    have := (itemsE_ok P its 0 v4 s.2.1.toNat (by omega)).2.2
    have := isSetFrom_ge _ _ _ this _ h3
    omega
  · simp at h
    obtain ⟨_, h0, h1, h3, _⟩ := h
    have := rulesE_ok P rls v5 s.2.2.toNat (by omega)
    unfold rlAt at h3
    rw [h3] at this
    exact this.2
theorem stepsB_ok {P : Int} {its : List ItemL} {rls : List RuleL} {C : Nat} (hv : validB P its rls = 0) : ∀ (l : List StepL) (M : Nat), stepsB its rls C M l = true → ∀ s ∈ l, 0 ≤ s.1 ∧ s.1 < P := by
  intro l
  induction l with
  | nil => intro M _ s hs; cases hs
  | cons x t ih =>
    intro M h s hs
    have h2 : (stepB its rls C M x && stepsB its rls C (M ||| 2 ^ x.1.toNat) t) = true := h
    rw [Bool.and_eq_true] at h2
    rcases List.mem_cons.1 hs with rfl | hs
    · exact stepB_ok hv h2.1
    · exact ih _ h2.2 s hs
theorem stepsB_succ (its : List ItemL) (rls : List RuleL) (C : Nat) (l : List StepL) (k : Nat) (hk : k < l.length) : stepsB its rls C 0 (l.take (k + 1)) = (stepsB its rls C 0 (l.take k) && stepB its rls C (propsL (l.take k)) (l[k]?.getD (0, 0, 0))) := by
  rw [List.take_succ_eq_append_getElem hk, stepsB_app, List.getElem?_eq_getElem hk]
  show (_ && (stepB its rls C (propsFrom 0 (l.take k)) l[k] && true)) = _
  rw [Bool.and_true]; rfl
theorem stepsB_stop {its : List ItemL} {rls : List RuleL} {C : Nat} {l : List StepL} {k : Nat} (h : stepsB its rls C 0 (l.take k) = false) : stepsB its rls C 0 l = false := by
  cases hb : stepsB its rls C 0 l with
  | false => rfl
  | true => rw [stepsB_take hb k] at h; cases h
theorem lastP_nil : lastP [] = -1 := rfl
theorem lastP_take (l : List StepL) (k : Nat) (hk : k < l.length) : lastP (l.take (k + 1)) = (l[k]?.getD (0, 0, 0)).1 := by
  rw [List.take_succ_eq_append_getElem hk, lastP, List.getLast?_append, List.getElem?_eq_getElem hk]; rfl
theorem lastP_get (l : List StepL) (h : 0 < l.length) : lastP l = (l[l.length - 1]?.getD (0, 0, 0)).1 := by
  have := lastP_take l (l.length - 1) (by omega)
  rw [show l.length - 1 + 1 = l.length by omega, List.take_length] at this
  exact this
end Go.Proofs.Ytdgleicpcjfnoaa
