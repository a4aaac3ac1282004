/- Plain: Reduce keeps the closures, and so the number of closed sets. -/
import Derived.Test.YtdgleicpcjfnoaaReduM
import Derived.Test.YtdgleicpcjfnoaaClosdP
set_option linter.unusedVariables false
namespace Go.Proofs.Ytdgleicpcjfnoaa
open Go.RowKit

theorem clo_iff (rls : List RuleL) (i : Nat) (hi : i < rls.length) (C : Nat) (h : Clo (rls.eraseIdx i) C) (hr : (∀ x ∈ (rls[i]?.getD ([], 0)).1, C.testBit x.toNat = true) → C.testBit (rls[i]?.getD ([], 0)).2.toNat = true) : Clo rls C := by
  intro r hm
  obtain ⟨j, hj, rfl⟩ := List.mem_iff_getElem.1 hm
  by_cases e : j = i
  · subst e
    rw [List.getElem?_eq_getElem hj] at hr
    exact hr
  · refine h _ ?_
    rw [List.mem_eraseIdx_iff_getElem]
    exact ⟨j, hj, e, rfl⟩
theorem ok_erase {rls : List RuleL} (ho : RulesOk rls) (i : Nat) : RulesOk (rls.eraseIdx i) := fun r hr => ho r (List.mem_of_mem_eraseIdx hr)
theorem fol_clos (rls : List RuleL) (ho : RulesOk rls) (i : Nat) (hi : i < rls.length) (hf : folB (rls.eraseIdx i) (rls[i]?.getD ([], 0)) = true) (M : Nat) (hM : M < 2 ^ 10) : closL (rls.eraseIdx i) M = closL rls M := by
  have hoe := ok_erase ho i
  obtain ⟨a1, a2, a3, a4⟩ := closL_spec _ hoe M hM
  obtain ⟨b1, b2, b3, b4⟩ := closL_spec _ ho M hM
  refine Sub.antisymm ?_ ?_
  · exact a4 _ (fun r hr => b1 r (List.mem_of_mem_eraseIdx hr)) b2
  · refine b4 _ (clo_iff rls i hi _ a1 (fun hx => ?_)) a2
    have hrm : (rls[i]?.getD ([], 0)) ∈ rls := by rw [List.getElem?_eq_getElem hi]; exact List.getElem_mem hi
    obtain ⟨o1, o2, o3⟩ := ho _ hrm
    have hm10 : maskL (rls[i]?.getD ([], 0)).1 < 2 ^ 10 := maskL_lt 10 _ (fun x hx => by have := o1 x hx; omega)
    obtain ⟨c1, c2, c3, c4⟩ := closL_spec _ hoe _ hm10
    refine c4 _ a1 (fun k hk => ?_) _ hf
    rw [testBit_maskL, decide_eq_true_iff] at hk
    obtain ⟨x, hx1, rfl⟩ := hk
    exact hx x hx1
theorem redL_ok : ∀ (k : Nat) (rls : List RuleL), k ≤ rls.length → RulesOk rls → RulesOk (redL k rls) ∧ ∀ M, M < 2 ^ 10 → closL (redL k rls) M = closL rls M
  | 0, rls, _, ho => ⟨ho, fun _ _ => rfl⟩
  | k + 1, rls, hk, ho => by
    rw [redL]
    by_cases hf : folB (rls.eraseIdx k) (rls[k]?.getD ([], 0)) = true
    · rw [if_pos hf]
      have hl : k ≤ (rls.eraseIdx k).length := by rw [List.length_eraseIdx, if_pos (by omega)]; omega
      obtain ⟨h1, h2⟩ := redL_ok k _ hl (ok_erase ho k)
      exact ⟨h1, fun M hM => (h2 M hM).trans (fol_clos rls ho k (by omega) hf M hM)⟩
    · rw [if_neg hf]
      exact redL_ok k rls (by omega) ho
theorem closN_red (rls : List RuleL) (ho : RulesOk rls) : ∀ m, m ≤ 2 ^ 10 → closN (redL rls.length rls) m = closN rls m
  | 0, _ => rfl
  | m + 1, hm => by rw [closN, closN, closN_red rls ho m (by omega), (redL_ok rls.length rls (Nat.le_refl _) ho).2 m (by omega)]
theorem redL_mem : ∀ (k : Nat) (rls : List RuleL) (r : RuleL), r ∈ redL k rls → r ∈ rls
  | 0, rls, r, h => h
  | k + 1, rls, r, h => by
    rw [redL] at h
    have := redL_mem k _ r h
    split at this
    · exact List.mem_of_mem_eraseIdx this
    · exact this
theorem redL_len : ∀ (k : Nat) (rls : List RuleL), (redL k rls).length ≤ rls.length
  | 0, rls => Nat.le_refl _
  | k + 1, rls => by
    rw [redL]
    refine Nat.le_trans (redL_len k _) ?_
    split
    · rw [List.length_eraseIdx]; split <;> omega
    · exact Nat.le_refl _
end Go.Proofs.Ytdgleicpcjfnoaa
