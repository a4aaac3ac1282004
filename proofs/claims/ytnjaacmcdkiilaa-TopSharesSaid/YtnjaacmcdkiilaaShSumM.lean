/- Sums of what is given away. -/
import Derived.Test.YtnjaacmcdkiilaaShL
set_option linter.unusedVariables false
namespace Go.Proofs.Ytnjaacmcdkiilaa
open Go.RowKit

theorem sumL_zeros (n : Nat) : sumL (List.replicate n 0) = 0 := by
  induction n with
  | zero => rfl
  | succ n ih => simp [List.replicate_succ, sumL, ih]
theorem sumL_set (l : List Int) (c : Nat) (x : Int) (h : c < l.length) : sumL (l.set c x) = sumL l - at0 l c + x := by
  induction l generalizing c with
  | nil => simp at h
  | cons y t ih =>
    cases c with
    | zero => simp [sumL, at0]; omega
    | succ c =>
      have := ih c (by simpa using h)
      simp only [List.set_cons_succ, sumL, this]
      have e : at0 (y :: t) (c + 1) = at0 t c := by simp [at0]
      rw [e]; omega
theorem giveL_sum {kind : Int} {os : List Int} (h : 1 ≤ os.length) (n : Nat) : sumL (giveL kind os n).2 = n := by
  induction n with
  | zero => exact sumL_zeros _
  | succ n ih =>
    have hb := bestL_lt (kind := kind) (ms := (giveL kind os n).2) h
    rw [giveL]
    dsimp only
    rw [sumL_set _ _ _ (by rw [giveL_len2]; exact hb), ih]
    omega
theorem giveL_vals (kind : Int) (os : List Int) (n : Nat) (hn : n ≤ 1000) : ∀ x ∈ (giveL kind os n).2, 0 ≤ x ∧ x ≤ 1000 := by
  intro x hx
  obtain ⟨k, hk', rfl⟩ := List.mem_iff_getElem.1 hx
  have := giveL_bd kind os n k
  unfold at0 at this
  rw [List.getElem?_eq_getElem hk'] at this
  simp at this; omega
theorem divL_vals (os : List Int) (n kind : Int) : (∀ x ∈ divL os n kind, 0 ≤ x ∧ x ≤ 1000) ∧ (divL os n kind).length ≤ 8 := by
  unfold divL
  split
  · rename_i h
    obtain ⟨g1, g2, m, rfl, hm⟩ := divE_ok h
    have := okO_len g1
    exact ⟨giveL_vals _ _ _ (by omega), by rw [giveL_len2]; omega⟩
  · exact ⟨fun x hx => (by cases hx), by simp⟩
theorem ordL_vals (os : List Int) (n kind : Int) : (∀ x ∈ ordL os n kind, 0 ≤ x ∧ x ≤ 1000) ∧ (ordL os n kind).length ≤ 1000 := by
  unfold ordL
  split
  · rename_i h
    obtain ⟨g1, g2, m, rfl, hm⟩ := divE_ok h
    have h8 := okO_len g1
    refine ⟨fun x hx => ?_, by rw [giveL_len1]; omega⟩
    have := giveL_mem h8.1 _ x hx
    omega
  · exact ⟨fun x hx => (by cases hx), by simp⟩
theorem divL_sum {os : List Int} {n kind : Int} (h : divE os n kind = true) : sumL (divL os n kind) = n ∧ ((ordL os n kind).length : Int) = n := by
  obtain ⟨g1, g2, m, rfl, hm⟩ := divE_ok h
  have h8 := okO_len g1
  rw [divL, ordL, if_pos h, if_pos h]
  exact ⟨giveL_sum h8.1 _, by rw [giveL_len1]; omega⟩
end Go.Proofs.Ytnjaacmcdkiilaa
