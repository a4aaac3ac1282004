/- The document's own answers about school days: plain functions. -/
import Derived.Test.YtilolaednbcaoaaCountsM
set_option linter.unusedVariables false
namespace Go.Proofs.Ytilolaednbcaoaa

/-- Is a day among the school days of a term. -/
theorem mem_sd (rs cs : List Int) (n : Nat) (x : Int) : x ∈ sdl (wd rs cs n) ↔ 0 ≤ x ∧ x < n ∧ openB rs cs x = true := by
  induction n with
  | zero => simp [wd, sdl]; omega
  | succ n ih =>
    rw [sd_succ, List.mem_append, ih]
    cases ho : openB rs cs (n : Int) with
    | true =>
      simp only [if_true, List.mem_singleton]
      constructor
      · rintro (⟨a, b, c⟩ | rfl)
        · exact ⟨a, by omega, c⟩
        · exact ⟨by omega, by omega, ho⟩
      · rintro ⟨a, b, c⟩
        by_cases e : x = n
        · exact .inr e
        · exact .inl ⟨a, by omega, c⟩
    | false =>
      simp only [Bool.false_eq_true, if_false, List.not_mem_nil, or_false]
      constructor
      · rintro ⟨a, b, c⟩; exact ⟨a, by omega, c⟩
      · rintro ⟨a, b, c⟩
        refine ⟨a, ?_, c⟩
        rcases Int.lt_or_le x n with h | h
        · exact h
        · have : x = n := by omega
          rw [this, ho] at c; cases c
def ropenL (L : Int) (rs cs : List Int) (d : Int) : Bool × Int :=
  if checkD L rs cs d ≠ 0 then (false, checkD L rs cs d) else (openB rs cs d, 0)
theorem openL_eq (L : Int) (rs cs : List Int) (d : Int) : openL L rs cs d = ropenL L rs cs d := by
  unfold openL ropenL
  split
  · rfl
  · rename_i h
    have hv := checkD_zero (by simpa using h)
    have hd : 0 ≤ d ∧ d < L := by
      simp only [checkD, hv, ne_eq, not_true_eq_false, if_false] at h
      by_cases hh : d < 0 ∨ L ≤ d
      · simp [hh] at h
      · omega
    simp only [openLR, Prod.mk.injEq, and_true]
    rw [memB]
    cases ho : openB rs cs d with
    | true => rw [decide_eq_true_iff, mem_sd]; exact ⟨hd.1, by omega, ho⟩
    | false => rw [decide_eq_false_iff_not, mem_sd]; rintro ⟨_, _, c⟩; rw [ho] at c; cases c
theorem sd_bd (rs cs : List Int) (n : Nat) (hn : n ≤ 1000) : ∀ x ∈ sdl (wd rs cs n), -9223372036854775808 ≤ x ∧ x ≤ 9223372036854775807 := by
  intro x hx
  have := (mem_sd rs cs n x).1 hx
  omega
theorem sd_length (rs cs : List Int) (n : Nat) : (sdl (wd rs cs n)).length ≤ n := by
  have h3 := wd_len rs cs n
  have h4 : (sdl (wd rs cs n)).length ≤ (wd rs cs n).length := by simp [sdl]; exact List.length_filter_le _ _
  omega
theorem findGe_drop (d : Int) (l : List Int) (k : Nat) (h : k < l.length) : findGe d (l.drop k) = if d ≤ l[k]?.getD 0 then some (l[k]?.getD 0) else findGe d (l.drop (k + 1)) := by
  rw [List.drop_eq_getElem_cons h, findGe]; simp [h]

end Go.Proofs.Ytilolaednbcaoaa
