/- The lattice of the whole pairs of a table, and its least menus: plain facts. -/
import Derived.Test.YtongejajkifccabPairsM
set_option linter.unusedVariables false
namespace Go.Proofs.Ytongejajkifccab

theorem and_sub' (x y : Nat) : x &&& y = x ↔ ∀ i, x.testBit i = true → y.testBit i = true := by rw [Nat.and_comm, and_sub]
theorem com_ext (d : Nat) (rows : List Int) (m k : Nat) (hm : m < 2 ^ d) (i : Nat) (h : m.testBit i = true) : (comN d rows (eatN rows m k) k).testBit i = true := by
  have hi : i < d := Nat.lt_of_not_le fun hh => by
    rw [Nat.testBit_lt_two_pow (Nat.lt_of_lt_of_le hm (Nat.pow_le_pow_right (by omega) hh))] at h; cases h
  rw [comN_bit]
  exact ⟨hi, fun c hc hb => ((eatN_bit d rows m k c hm).1 hb).2 i hi h⟩
theorem and_bits (a b i : Nat) : (a &&& b).testBit i = true ↔ a.testBit i = true ∧ b.testBit i = true := by rw [Nat.testBit_and, Bool.and_eq_true]
/-- Below two whole pairs there is one. -/
theorem pair_below (d : Nat) (rows : List Int) (x y k : Nat) (hx : x < 2 ^ k) (hy : y < 2 ^ k) (ex : eatN rows (comN d rows x k) k = x) (ey : eatN rows (comN d rows y k) k = y) :
  eatN rows (comN d rows (x &&& y) k) k = x &&& y := by
  have hl : x &&& y < 2 ^ k := Nat.lt_of_le_of_lt Nat.and_le_left hx
  apply Nat.eq_of_testBit_eq
  intro c
  rw [Bool.eq_iff_iff]
  constructor
  · intro h
    rw [and_bits]
    refine ⟨?_, ?_⟩
    · rw [← ex]; exact eat_anti d rows _ _ k (comN_lt ..) (comN_lt ..) (com_anti d rows _ _ k fun i hi => ((and_bits _ _ _).1 hi).1) c h
    · rw [← ey]; exact eat_anti d rows _ _ k (comN_lt ..) (comN_lt ..) (com_anti d rows _ _ k fun i hi => ((and_bits _ _ _).1 hi).2) c h
  · exact eat_ext d rows _ k hl c
/-- Above two whole pairs there is one. -/
theorem pair_above (d : Nat) (rows : List Int) (x y k : Nat) (ex : eatN rows (comN d rows x k) k = x) (ey : eatN rows (comN d rows y k) k = y) :
  comN d rows (eatN rows (comN d rows x k &&& comN d rows y k) k) k = comN d rows x k &&& comN d rows y k := by
  have hl : comN d rows x k &&& comN d rows y k < 2 ^ d := Nat.lt_of_le_of_lt Nat.and_le_left (comN_lt ..)
  apply Nat.eq_of_testBit_eq
  intro i
  rw [Bool.eq_iff_iff]
  constructor
  · intro h
    rw [and_bits]
    refine ⟨com_anti d rows _ _ k (fun c hc => ?_) i h, com_anti d rows _ _ k (fun c hc => ?_) i h⟩
    · rw [← ex] at hc; exact eat_anti d rows _ _ k hl (comN_lt ..) (fun j hj => ((and_bits _ _ _).1 hj).1) c hc
    · rw [← ey] at hc; exact eat_anti d rows _ _ k hl (comN_lt ..) (fun j hj => ((and_bits _ _ _).1 hj).2) c hc
  · exact com_ext d rows _ k hl i
/-- Fewer children have more dishes, and the other way round. -/
theorem pair_order (d : Nat) (rows : List Int) (x y k : Nat) (ex : eatN rows (comN d rows x k) k = x) (ey : eatN rows (comN d rows y k) k = y) :
  (x &&& y = x) ↔ (comN d rows x k &&& comN d rows y k = comN d rows y k) := by
  rw [and_sub', and_sub]
  constructor
  · exact fun h => com_anti d rows x y k h
  · intro h c hc
    rw [← ey]; rw [← ex] at hc
    exact eat_anti d rows _ _ k (comN_lt ..) (comN_lt ..) h c hc

theorem mem_menusTo (rows : List Int) (n : Nat) (x : Int) : x ∈ menusTo rows n ↔ ∃ m : Nat, m < n ∧ goodMenu rows m = true ∧ x = m := by
  induction n with
  | zero => simp [menusTo]
  | succ n ih =>
    rw [menusTo, List.mem_append, ih]
    constructor
    · rintro (⟨m, h1, h2, h3⟩ | h)
      · exact ⟨m, by omega, h2, h3⟩
      · split at h
        · rename_i hg; exact ⟨n, by omega, hg, by simpa using h⟩
        · cases h
    · rintro ⟨m, h1, h2, h3⟩
      by_cases e : m = n
      · subst e; right; rw [if_pos h2]; simp [h3]
      · exact .inl ⟨m, by omega, h2, h3⟩
theorem menusTo_sorted (rows : List Int) (n : Nat) : (menusTo rows n).Pairwise (· < ·) := by
  induction n with
  | zero => simp [menusTo]
  | succ n ih =>
    rw [menusTo, List.pairwise_append]
    refine ⟨ih, by split <;> simp, fun a ha b hb => ?_⟩
    have h1 := menusTo_bd rows n a ha
    split at hb
    · simp at hb; omega
    · cases hb
theorem menus_feed (rows : List Int) (m : Nat) (hg : goodMenu rows m = true) (x : Int) (hx : x ∈ rows) : x.toNat &&& m ≠ 0 := by
  rw [goodMenu, Bool.and_eq_true] at hg
  exact (feedsB_iff m rows).1 hg.1 x hx
theorem without_bit_all : ∀ m : Fin 256, ∀ x : Fin 8, ∀ i : Fin 8, (without m.val x.val).testBit i.val = (m.val.testBit i.val && i.val != x.val) := by decide +kernel
/-- Of a least menu no other one is a part. -/
theorem menus_least (rows : List Int) (a b : Nat) (ha : a < 256) (hb : b < 256) (ga : goodMenu rows a = true) (gb : goodMenu rows b = true) (hab : a &&& b = a) : a = b := by
  have hs := (and_sub' a b).1 hab
  apply Nat.eq_of_testBit_eq
  intro i
  by_cases hi : i < 8
  · cases hbi : b.testBit i with
    | false =>
      cases hai : a.testBit i with
      | false => rfl
      | true => rw [hs i hai] at hbi; cases hbi
    | true =>
      cases hai : a.testBit i with
      | true => rfl
      | false =>
        exfalso
        rw [goodMenu, Bool.and_eq_true, Bool.not_eq_true', ← Bool.not_eq_true, spareB_iff] at gb
        apply gb.2
        refine ⟨(i : Int), (mem_bitsTo _ _ _).2 ⟨i, rfl, by omega, hbi⟩, ?_⟩
        rw [Int.toNat_natCast, feedsB_iff]
        intro x hx hz
        refine menus_feed rows a ga x hx ?_
        apply Nat.eq_of_testBit_eq
        intro j
        have hzj := congrArg (fun z => z.testBit j) hz
        simp only [Nat.testBit_and, Nat.zero_testBit] at hzj ⊢
        cases haj : a.testBit j with
        | false => simp
        | true =>
          have hj : j < 8 := Nat.lt_of_not_le fun hh => by
            rw [Nat.testBit_lt_two_pow (Nat.lt_of_lt_of_le (show a < 2 ^ 8 from ha) (Nat.pow_le_pow_right (by omega) hh))] at haj; cases haj
          have hw := without_bit_all ⟨b, hb⟩ ⟨i, hi⟩ ⟨j, hj⟩
          simp only at hw
          have hne : j ≠ i := fun e => by subst e; rw [hai] at haj; cases haj
          rw [hw, hs j haj] at hzj
          simpa [hne] using hzj
  · rw [Nat.testBit_lt_two_pow (Nat.lt_of_lt_of_le (show a < 2 ^ 8 from ha) (Nat.pow_le_pow_right (by omega) (by omega))), Nat.testBit_lt_two_pow (Nat.lt_of_lt_of_le (show b < 2 ^ 8 from hb) (Nat.pow_le_pow_right (by omega) (by omega)))]
theorem getI_mem (l : List Int) (k : Nat) (h : k < l.length) : l[k]?.getD 0 ∈ l := by
  rw [List.getElem?_eq_getElem h]; simp
/-- Two of the menus that come out: neither is a part of the other. -/
theorem menus_apart (rows : List Int) (n i k : Nat) (hn : n ≤ 256) (hk : k < i) (hi : i < (menusTo rows n).length) :
  ∃ a b : Nat, (menusTo rows n)[i]?.getD 0 = a ∧ (menusTo rows n)[k]?.getD 0 = b ∧ a < 256 ∧ b < 256 ∧ a &&& b ≠ a ∧ a &&& b ≠ b := by
  obtain ⟨a, h1, h2, h3⟩ := (mem_menusTo rows n _).1 (getI_mem _ i hi)
  obtain ⟨b, g1, g2, g3⟩ := (mem_menusTo rows n _).1 (getI_mem _ k (by omega))
  refine ⟨a, b, h3, g3, by omega, by omega, ?_⟩
  have hs := menusTo_sorted rows n
  have hne : a ≠ b := by
    intro e
    have := (List.pairwise_iff_getElem.1 hs) k i (by omega) hi hk
    rw [List.getElem?_eq_getElem hi, Option.getD_some] at h3
    rw [List.getElem?_eq_getElem (by omega), Option.getD_some] at g3
    omega
  refine ⟨fun h => hne (menus_least rows a b (by omega) (by omega) h2 g2 h), fun h => ?_⟩
  rw [Nat.and_comm] at h
  exact hne (menus_least rows b a (by omega) (by omega) g2 h2 h).symm
end Go.Proofs.Ytongejajkifccab
