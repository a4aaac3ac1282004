/- The document's own menus of a table: plain functions. -/
import Derived.Test.YtongejajkifccabTableM
set_option linter.unusedVariables false
namespace Go.Proofs.Ytongejajkifccab

def rokTo (rows : List Int) (m : Nat) : Nat → Bool
  | 0 => feedsB m rows
  | k + 1 => rokTo rows m k && (!m.testBit k || !feedsB (without m k) rows)
theorem rokTo_iff (rows : List Int) (m k : Nat) : rokTo rows m k = true ↔ feedsB m rows = true ∧ ∀ i, i < k → m.testBit i = true → feedsB (without m i) rows = false := by
  induction k with
  | zero => simp [rokTo]
  | succ k ih =>
    rw [rokTo, Bool.and_eq_true, ih]
    constructor
    · rintro ⟨⟨h1, h2⟩, h3⟩
      refine ⟨h1, fun i hi hb => ?_⟩
      by_cases e : i = k
      · subst e; simpa [hb] using h3
      · exact h2 i (by omega) hb
    · rintro ⟨h1, h2⟩
      refine ⟨⟨h1, fun i hi hb => h2 i (by omega) hb⟩, ?_⟩
      cases hb : m.testBit k with
      | false => rfl
      | true => simp [h2 k (by omega) hb]
theorem rokTo_stop {rows : List Int} {m k n : Nat} (h : rokTo rows m k = false) (hk : k ≤ n) : rokTo rows m n = false := by
  induction n with
  | zero => obtain rfl : k = 0 := by omega
            exact h
  | succ n ih =>
    by_cases e : k = n + 1
    · subst e; exact h
    · rw [rokTo, ih (by omega)]; rfl
theorem goodMenu_rok (rows : List Int) (m n : Nat) (hm : m < 2 ^ n) (hn : n ≤ 8) : goodMenu rows m = rokTo rows m n := by
  rw [Bool.eq_iff_iff, rokTo_iff, goodMenu, Bool.and_eq_true]
  refine and_congr_right fun _ => ?_
  rw [Bool.not_eq_true', ← Bool.not_eq_true, spareB_iff]
  constructor
  · intro h i hi hb
    cases hf : feedsB (without m i) rows with
    | false => rfl
    | true => exact absurd ⟨(i : Int), (mem_bitsTo _ _ _).2 ⟨i, rfl, by omega, hb⟩, by simpa using hf⟩ h
  · rintro h ⟨x, hx, hf⟩
    obtain ⟨i, rfl, _, hb⟩ := (mem_bitsTo _ _ _).1 hx
    have hi : i < n := Nat.lt_of_not_le fun hh => by
      rw [Nat.testBit_lt_two_pow (Nat.lt_of_lt_of_le hm (Nat.pow_le_pow_right (by omega) hh))] at hb; cases hb
    rw [Int.toNat_natCast, h i hi hb] at hf
    cases hf
theorem without_sub_all : ∀ m : Fin 256, ∀ x : Fin 8, m.val.testBit x.val = true → without m.val x.val = m.val - 2 ^ x.val ∧ 2 ^ x.val ≤ m.val := by decide +kernel
theorem without_sub (m x : Nat) (hm : m < 256) (hx : x < 8) (hb : m.testBit x = true) : without m x = m - 2 ^ x ∧ 2 ^ x ≤ m := without_sub_all ⟨m, hm⟩ ⟨x, hx⟩ hb
theorem bit_all : ∀ m : Fin 256, ∀ x : Fin 8, (m.val / 2 ^ x.val % 2 = 1) = (m.val.testBit x.val = true) := by decide +kernel
end Go.Proofs.Ytongejajkifccab
