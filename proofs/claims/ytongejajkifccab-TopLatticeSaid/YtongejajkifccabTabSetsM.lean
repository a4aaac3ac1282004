/- Who can eat what: plain functions of a table. -/
import Derived.Test.YtongejajkifccabRTableM
set_option linter.unusedVariables false
namespace Go.Proofs.Ytongejajkifccab

def rowN (rows : List Int) (c : Nat) : Nat := (rows[c]?.getD 0).toNat
/-- The dishes that all of the first k children of a set can eat. -/
def comN (d : Nat) (rows : List Int) (ch : Nat) : Nat → Nat
  | 0 => 2 ^ d - 1
  | k + 1 => if ch.testBit k then comN d rows ch k &&& rowN rows k else comN d rows ch k
theorem comN_bit (d : Nat) (rows : List Int) (ch k i : Nat) : (comN d rows ch k).testBit i = true ↔ i < d ∧ ∀ c, c < k → ch.testBit c = true → (rowN rows c).testBit i = true := by
  induction k with
  | zero => simp [comN, Nat.testBit_two_pow_sub_one]
  | succ k ih =>
    rw [comN]
    split
    · rename_i hc
      rw [Nat.testBit_and, Bool.and_eq_true, ih]
      constructor
      · rintro ⟨⟨h1, h2⟩, h3⟩
        refine ⟨h1, fun c hh hb => ?_⟩
        by_cases e : c = k
        · subst e; exact h3
        · exact h2 c (by omega) hb
      · rintro ⟨h1, h2⟩
        exact ⟨⟨h1, fun c hh hb => h2 c (by omega) hb⟩, h2 k (by omega) hc⟩
    · rename_i hc
      rw [ih]
      constructor
      · rintro ⟨h1, h2⟩
        refine ⟨h1, fun c hh hb => ?_⟩
        by_cases e : c = k
        · subst e; exact absurd hb hc
        · exact h2 c (by omega) hb
      · rintro ⟨h1, h2⟩
        exact ⟨h1, fun c hh hb => h2 c (by omega) hb⟩
theorem comN_lt (d : Nat) (rows : List Int) (ch k : Nat) : comN d rows ch k < 2 ^ d := by
  apply Nat.lt_pow_two_of_testBit
  intro i hi
  cases h : (comN d rows ch k).testBit i with
  | false => rfl
  | true => have := ((comN_bit d rows ch k i).1 h).1; omega
/-- The bits of a number that is put together bit by bit. -/
def addN (f : Nat → Bool) : Nat → Nat
  | 0 => 0
  | k + 1 => if f k then addN f k + 2 ^ k else addN f k
theorem addN_lt (f : Nat → Bool) (k : Nat) : addN f k < 2 ^ k := by
  induction k with
  | zero => simp [addN]
  | succ k ih => rw [addN, Nat.pow_succ]; split <;> omega
theorem addN_bit (f : Nat → Bool) (k i : Nat) : (addN f k).testBit i = true ↔ i < k ∧ f i = true := by
  induction k with
  | zero => simp [addN]
  | succ k ih =>
    have hl := addN_lt f k
    rw [addN]
    split
    · rename_i hf
      have e : addN f k + 2 ^ k = 2 ^ k ||| addN f k := by
        have := Nat.two_pow_add_eq_or_of_lt hl 1
        simp at this
        omega
      rw [e, Nat.testBit_or, Bool.or_eq_true, ih, Nat.testBit_two_pow, decide_eq_true_iff]
      constructor
      · rintro (rfl | ⟨h1, h2⟩)
        · exact ⟨by omega, hf⟩
        · exact ⟨by omega, h2⟩
      · rintro ⟨h1, h2⟩
        by_cases e : k = i
        · exact .inl e
        · exact .inr ⟨by omega, h2⟩
    · rename_i hf
      rw [ih]
      constructor
      · rintro ⟨h1, h2⟩; exact ⟨by omega, h2⟩
      · rintro ⟨h1, h2⟩
        refine ⟨?_, h2⟩
        by_cases e : i = k
        · subst e; exact absurd h2 hf
        · omega
/-- Do all of the first k children of a set eat a dish? -/
def allCh (rows : List Int) (ch d : Nat) : Nat → Bool
  | 0 => true
  | k + 1 => allCh rows ch d k && (!ch.testBit k || (rowN rows k).testBit d)
theorem allCh_iff (rows : List Int) (ch d k : Nat) : allCh rows ch d k = true ↔ ∀ c, c < k → ch.testBit c = true → (rowN rows c).testBit d = true := by
  induction k with
  | zero => simp [allCh]
  | succ k ih =>
    rw [allCh, Bool.and_eq_true, ih]
    constructor
    · rintro ⟨h1, h2⟩ c hc hb
      by_cases e : c = k
      · subst e; simpa [hb] using h2
      · exact h1 c (by omega) hb
    · intro h
      refine ⟨fun c hc hb => h c (by omega) hb, ?_⟩
      cases hb : ch.testBit k with
      | false => rfl
      | true => simp [h k (by omega) hb]
theorem com_eq (d : Nat) (rows : List Int) (ch k : Nat) : addN (fun i => allCh rows ch i k) d = comN d rows ch k := by
  apply Nat.eq_of_testBit_eq
  intro i
  rw [Bool.eq_iff_iff, addN_bit, comN_bit, allCh_iff]
/-- Does a child eat the first k dishes of a set? -/
def allDi (row menu : Nat) : Nat → Bool
  | 0 => true
  | k + 1 => allDi row menu k && (!menu.testBit k || row.testBit k)
theorem allDi_iff (row menu k : Nat) : allDi row menu k = true ↔ ∀ i, i < k → menu.testBit i = true → row.testBit i = true := by
  induction k with
  | zero => simp [allDi]
  | succ k ih =>
    rw [allDi, Bool.and_eq_true, ih]
    constructor
    · rintro ⟨h1, h2⟩ c hc hb
      by_cases e : c = k
      · subst e; simpa [hb] using h2
      · exact h1 c (by omega) hb
    · intro h
      refine ⟨fun c hc hb => h c (by omega) hb, ?_⟩
      cases hb : menu.testBit k with
      | false => rfl
      | true => simp [h k (by omega) hb]
/-- Those of the first k children who can eat all dishes of a set. -/
def eatN (rows : List Int) (menu : Nat) : Nat → Nat
  | 0 => 0
  | k + 1 => if menu &&& rowN rows k = menu then eatN rows menu k ||| 2 ^ k else eatN rows menu k
theorem sub_iff (menu row d : Nat) (hm : menu < 2 ^ d) : (menu &&& row = menu) ↔ allDi row menu d = true := by
  rw [allDi_iff]
  constructor
  · intro h i hi hb
    rw [← h, Nat.testBit_and, Bool.and_eq_true] at hb
    exact hb.2
  · intro h
    apply Nat.eq_of_testBit_eq
    intro i
    rw [Nat.testBit_and]
    cases hb : menu.testBit i with
    | false => rfl
    | true =>
      have hi : i < d := Nat.lt_of_not_le fun hh => by
        rw [Nat.testBit_lt_two_pow (Nat.lt_of_lt_of_le hm (Nat.pow_le_pow_right (by omega) hh))] at hb; cases hb
      simp [h i hi hb]
theorem eat_eq (d : Nat) (rows : List Int) (menu k : Nat) (hm : menu < 2 ^ d) : eatN rows menu k = addN (fun c => allDi (rowN rows c) menu d) k := by
  induction k with
  | zero => rfl
  | succ k ih =>
    rw [eatN, addN, ih]
    by_cases h : menu &&& rowN rows k = menu
    · rw [if_pos h, if_pos ((sub_iff _ _ _ hm).1 h)]
      have := Nat.two_pow_add_eq_or_of_lt (addN_lt (fun c => allDi (rowN rows c) menu d) k) 1
      simp at this
      rw [Nat.or_comm]; omega
    · rw [if_neg h, if_neg (fun hh => h ((sub_iff _ _ _ hm).2 hh))]
theorem eatN_lt (d : Nat) (rows : List Int) (menu k : Nat) (hm : menu < 2 ^ d) : eatN rows menu k < 2 ^ k := by rw [eat_eq d rows menu k hm]; exact addN_lt _ _
def dishesL (rows : List Int) (d s : Int) : Int × Int :=
  if validTab rows d ≠ 0 then (0, validTab rows d) else if choiceB s rows.length then ((comN d.toNat rows s.toNat rows.length : Nat), 0) else (0, 1)
def childrenL (rows : List Int) (d s : Int) : Int × Int :=
  if validTab rows d ≠ 0 then (0, validTab rows d) else if choiceB s d then ((eatN rows s.toNat rows.length : Nat), 0) else (0, 1)
/-- Fewer children: all the more dishes. -/
theorem comN_mono (d : Nat) (rows : List Int) (a b k : Nat) (h : ∀ c, b.testBit c = true → a.testBit c = true) : comN d rows b k &&& comN d rows a k = comN d rows a k := by
  apply Nat.eq_of_testBit_eq
  intro i
  rw [Nat.testBit_and]
  cases hb : (comN d rows a k).testBit i with
  | false => simp
  | true =>
    obtain ⟨h1, h2⟩ := (comN_bit d rows a k i).1 hb
    rw [(comN_bit d rows b k i).2 ⟨h1, fun c hc hh => h2 c hc (h c hh)⟩]; rfl
end Go.Proofs.Ytongejajkifccab
