/- Plain: a set that lies in another one and is as large is that one. -/
import Derived.Test.YtdgleicpcjfnoaaReduC
set_option linter.unusedVariables false
namespace Go.Proofs.Ytdgleicpcjfnoaa
open Go.RowKit

theorem bits_le {m C : Nat} (h : Sub m C) : ∀ n, (bitsTo m n).length ≤ (bitsTo C n).length
  | 0 => by simp [bitsTo]
  | n + 1 => by
    have ih := bits_le h n
    have hn := h n
    rw [bitsTo, bitsTo, List.length_append, List.length_append]
    cases h1 : m.testBit n with
    | false => simp; omega
    | true => rw [hn h1]; simp; omega
theorem bits_same {m C : Nat} (h : Sub m C) : ∀ n, (bitsTo C n).length = (bitsTo m n).length → ∀ i, i < n → C.testBit i = m.testBit i
  | 0, _, i, hi => by omega
  | n + 1, he, i, hi => by
    have hl := bits_le h n
    have hn := h n
    rw [bitsTo, bitsTo, List.length_append, List.length_append] at he
    cases h1 : m.testBit n with
    | true =>
      have h2 := hn h1
      rw [h1, h2] at he
      simp at he
      by_cases e : i = n
      · subst e; rw [h1, h2]
      · exact bits_same h n he i (by omega)
    | false =>
      cases h2 : C.testBit n with
      | true => rw [h1, h2] at he; simp at he; omega
      | false =>
        rw [h1, h2] at he
        simp at he
        by_cases e : i = n
        · subst e; rw [h1, h2]
        · exact bits_same h n he i (by omega)
/-- The document's test of a closed set: the closure is as large as the set. -/
theorem size_closed (rls : List RuleL) (ho : RulesOk rls) (m n : Nat) (hm : m < 2 ^ 10) (hn : 10 ≤ n) : ((bitsTo (closL rls m) n).length = (bitsTo m n).length) ↔ closL rls m = m := by
  obtain ⟨_, h2, h3, _⟩ := closL_spec rls ho m hm
  constructor
  · intro h
    apply Nat.eq_of_testBit_eq
    intro i
    by_cases hi : i < n
    · exact bits_same h2 n h i hi
    · have hp : 2 ^ 10 ≤ 2 ^ i := Nat.pow_le_pow_right (by omega) (by omega)
      rw [Nat.testBit_lt_two_pow (by omega), Nat.testBit_lt_two_pow (by omega)]
  · intro h; rw [h]
end Go.Proofs.Ytdgleicpcjfnoaa
