/- Whole pairs of a table: plain functions and what holds of them. -/
import Derived.Test.YtongejajkifccabTabSetsM
set_option linter.unusedVariables false
namespace Go.Proofs.Ytongejajkifccab

/-- The whole pairs among the first j sets of children. -/
def pairsTo (d : Nat) (rows : List Int) : Nat → List (Int × Int)
  | 0 => []
  | j + 1 => if eatN rows (comN d rows j rows.length) rows.length = j then pairsTo d rows j ++ [((j : Int), ((comN d rows j rows.length : Nat) : Int))] else pairsTo d rows j
def pairsR (rows : List Int) (d : Int) : List (Int × Int) × Int :=
  if validTab rows d ≠ 0 then ([], validTab rows d) else (pairsTo d.toNat rows (2 ^ rows.length), 0)
theorem pairsTo_len (d : Nat) (rows : List Int) (j : Nat) : (pairsTo d rows j).length ≤ j := by
  induction j with
  | zero => simp [pairsTo]
  | succ j ih =>
    rw [pairsTo]
    split
    · rw [List.length_append]; simp; omega
    · omega
theorem mem_pairsTo (d : Nat) (rows : List Int) (j : Nat) (p : Int × Int) : p ∈ pairsTo d rows j ↔ ∃ x : Nat, x < j ∧ eatN rows (comN d rows x rows.length) rows.length = x ∧ p = ((x : Int), ((comN d rows x rows.length : Nat) : Int)) := by
  induction j with
  | zero => simp [pairsTo]
  | succ j ih =>
    rw [pairsTo]
    constructor
    · intro h
      split at h
      · rename_i he
        rcases List.mem_append.1 h with h | h
        · obtain ⟨x, h1, h2⟩ := ih.1 h; exact ⟨x, by omega, h2⟩
        · exact ⟨j, by omega, he, by simpa using h⟩
      · obtain ⟨x, h1, h2⟩ := ih.1 h; exact ⟨x, by omega, h2⟩
    · rintro ⟨x, h1, h2, h3⟩
      by_cases e : x = j
      · subst e; rw [if_pos h2]; simp [h3]
      · have := ih.2 ⟨x, by omega, h2, h3⟩
        split
        · exact List.mem_append_left _ this
        · exact this
theorem and_sub (x y : Nat) : x &&& y = y ↔ ∀ i, y.testBit i = true → x.testBit i = true := by
  constructor
  · intro h i hi
    rw [← h, Nat.testBit_and, Bool.and_eq_true] at hi
    exact hi.1
  · intro h
    apply Nat.eq_of_testBit_eq
    intro i
    rw [Nat.testBit_and]
    cases hb : y.testBit i with
    | false => simp
    | true => simp [h i hb]
theorem eatN_bit (d : Nat) (rows : List Int) (m k c : Nat) (hm : m < 2 ^ d) : (eatN rows m k).testBit c = true ↔ c < k ∧ ∀ i, i < d → m.testBit i = true → (rowN rows c).testBit i = true := by
  rw [eat_eq d rows m k hm, addN_bit, allDi_iff]
theorem eat_ext (d : Nat) (rows : List Int) (ch k : Nat) (hc : ch < 2 ^ k) (c : Nat) (h : ch.testBit c = true) : (eatN rows (comN d rows ch k) k).testBit c = true := by
  have hk : c < k := Nat.lt_of_not_le fun hh => by
    rw [Nat.testBit_lt_two_pow (Nat.lt_of_lt_of_le hc (Nat.pow_le_pow_right (by omega) hh))] at h; cases h
  rw [eatN_bit d rows _ k c (comN_lt d rows ch k)]
  exact ⟨hk, fun i _ hb => ((comN_bit d rows ch k i).1 hb).2 c hk h⟩
theorem eat_anti (d : Nat) (rows : List Int) (a b k : Nat) (ha : a < 2 ^ d) (hb : b < 2 ^ d) (h : ∀ i, a.testBit i = true → b.testBit i = true) (c : Nat) (hc : (eatN rows b k).testBit c = true) : (eatN rows a k).testBit c = true := by
  rw [eatN_bit d rows _ k c hb] at hc
  rw [eatN_bit d rows _ k c ha]
  exact ⟨hc.1, fun i hi hh => hc.2 i hi (h i hh)⟩
theorem com_anti (d : Nat) (rows : List Int) (a b k : Nat) (h : ∀ i, a.testBit i = true → b.testBit i = true) (i : Nat) (hi : (comN d rows b k).testBit i = true) : (comN d rows a k).testBit i = true := by
  rw [comN_bit] at hi ⊢
  exact ⟨hi.1, fun c hc hh => hi.2 c hc (h c hh)⟩
theorem com_eat_com (d : Nat) (rows : List Int) (ch k : Nat) (hc : ch < 2 ^ k) : comN d rows (eatN rows (comN d rows ch k) k) k = comN d rows ch k := by
  apply Nat.eq_of_testBit_eq
  intro i
  rw [Bool.eq_iff_iff]
  constructor
  · exact com_anti d rows _ _ k (eat_ext d rows ch k hc) i
  · intro h
    rw [comN_bit]
    have hi := ((comN_bit d rows ch k i).1 h).1
    exact ⟨hi, fun c hck hb => ((eatN_bit d rows _ k c (comN_lt d rows ch k)).1 hb).2 i hi h⟩
/-- The smallest whole pair that has some children. -/
theorem pair_found (d : Nat) (rows : List Int) (ch : Nat) (hc : ch < 2 ^ rows.length) :
  (((eatN rows (comN d rows ch rows.length) rows.length : Nat) : Int), ((comN d rows ch rows.length : Nat) : Int)) ∈ pairsTo d rows (2 ^ rows.length) := by
  rw [mem_pairsTo]
  refine ⟨eatN rows (comN d rows ch rows.length) rows.length, eatN_lt d rows _ _ (comN_lt d rows ch _), ?_, ?_⟩
  · rw [com_eat_com d rows ch _ hc]
  · rw [com_eat_com d rows ch _ hc]
theorem pair_ext (d : Nat) (rows : List Int) (ch : Nat) (hc : ch < 2 ^ rows.length) : eatN rows (comN d rows ch rows.length) rows.length &&& ch = ch :=
  (and_sub _ _).2 (eat_ext d rows ch _ hc)
theorem pair_least (d : Nat) (rows : List Int) (ch x : Nat) (hx : eatN rows (comN d rows x rows.length) rows.length = x) (h : x &&& ch = ch) :
  x &&& eatN rows (comN d rows ch rows.length) rows.length = eatN rows (comN d rows ch rows.length) rows.length := by
  rw [and_sub] at h ⊢
  intro c hb
  rw [← hx]
  exact eat_anti d rows _ _ _ (comN_lt d rows x _) (comN_lt d rows ch _) (com_anti d rows ch x _ h) c hb
end Go.Proofs.Ytongejajkifccab
