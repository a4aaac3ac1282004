/- Tables of package dish: commonDishes, eaters, Dishes, Children. -/
import Derived.Test.YtongejajkifccabTable
import Derived.Test.YtongejajkifccabRTable
import Derived.Test.YtongejajkifccabTabSetsM
set_option linter.unusedVariables false
namespace Go.Proofs.Ytongejajkifccab
open Go.RowKit

theorem andNot_keep (m r : Nat) (hm : m < 2 ^ 64) (hr : r < 2 ^ 64) : m &&& (2 ^ 64 - 1 - r) = 0 ↔ m &&& r = m := by
  have hb : ∀ i, (2 ^ 64 - 1 - r).testBit i = (decide (i < 64) && !r.testBit i) := fun i => by
    rw [show 2 ^ 64 - 1 - r = 2 ^ 64 - (r + 1) by omega]; exact Nat.testBit_two_pow_sub_succ hr i
  constructor
  · intro h
    apply Nat.eq_of_testBit_eq
    intro i
    have h1 : (m &&& (2 ^ 64 - 1 - r)).testBit i = false := by rw [h]; simp
    rw [Nat.testBit_and, hb] at h1
    rw [Nat.testBit_and]
    cases hx : m.testBit i with
    | false => rfl
    | true =>
      have hi : i < 64 := Nat.lt_of_not_le fun hh => by
        rw [Nat.testBit_lt_two_pow (Nat.lt_of_lt_of_le hm (Nat.pow_le_pow_right (by omega) hh))] at hx; cases hx
      rw [hx] at h1
      simpa [hi] using h1
  · intro h
    apply Nat.eq_of_testBit_eq
    intro i
    rw [Nat.testBit_and, hb, Nat.zero_testBit]
    have h1 : (m &&& r).testBit i = m.testBit i := by rw [h]
    rw [Nat.testBit_and] at h1
    cases hx : m.testBit i <;> cases hy : r.testBit i <;> simp_all

def PairR (w : World) (p : Int × Int) (en : Ending) (w' : World) : Prop := Below w.heap.size w w' ∧ en = .returned (.tuple #[.int .i64 p.1, .int .i64 p.2])

set_option maxRecDepth 100000 in
set_option maxHeartbeats 2000000 in
theorem commonDishes_any (a : Option Addr) (rows : List Int) (cap : Nat) (n ch : Nat) (w : World) (h : Ints w a rows) (hr : ∀ x ∈ rows, 0 ≤ x) (hn : n ≤ 8) (hc : ch < 256) (hl : rows.length ≤ 8) :
  Calls Try.prog 50 #[.slice a rows.length cap, .int .i64 n, .int .i64 ch] w fun en w' => w = w' ∧ en = .returned (.int .i64 (comN n rows ch rows.length : Nat)) := by
  have hlen := h.len
  have HH := hid h
  have HB := hid hr
  have hp : 2 ^ n ≤ 256 := Nat.pow_le_pow_right (n := 2) (by omega) hn
  have HP := hid (show wrap64 (wrap64 (2 ^ n) - 1) = ((comN n rows ch 0 : Nat) : Int) by
    have h1 : 0 < 2 ^ n := Nat.two_pow_pos n
    rw [pow_wrap n (by omega), comN, wrap64]
    generalize 2 ^ n = p at *
    omega)
  have hc64 : IntKind.u64.wrap (ch : Int) = (ch : Int) := by rw [IntKind.wrap_u64]; omega
  clear h hr
  go_enter Try.func50, Try.ntmps50
  go_wp2
  rw [HP.out]
  go_loop [7, 15] (fun v i => ∃ k : Nat, k ≤ rows.length ∧ i = .int .i64 k ∧ v = .int .i64 (comN n rows ch k : Nat)) (fun _ i => rows.length - (intOf i).toNat)
  case atStart => exact ⟨0, Nat.zero_le _, rfl, rfl⟩
  case round =>
    obtain ⟨k, hk, rfl, rfl⟩ := hrel
    by_cases hlt : k < rows.length
    · rcases HH.out.at_ with e | ⟨b, off, rfl, hcc⟩
      · rw [e] at hlt; simp at hlt
      have c0 := hcc k hlt
      have hx0 := HB.out _ (getD_mem rows k hlt)
      have hx1 := HH.out.bdAt k hlt
      have HK := hid (show comN n rows ch (k + 1) = if ch.testBit k then comN n rows ch k &&& rowN rows k else comN n rows ch k from rfl)
      have hcl := comN_lt n rows ch k
      unfold rowN at HK
      clear hcc
      generalize rows[k]?.getD 0 = x at *
      obtain ⟨m, rfl⟩ := Int.eq_ofNat_of_zero_le hx0
      rw [Int.toNat_natCast] at HK
      generalize comN n rows ch k = cn at *
      have HA := hid (i64_and_n cn m (by omega) (by omega))
      have HM := hid (has_mask ch k · (by omega) (by omega))
      go_wp2_with fail
      refine (HM.out _).mono ?_
      rintro e w' ⟨rfl, rfl⟩
      cases hb : ch.testBit k with
      | true =>
        have HE := hid (show comN n rows ch (k + 1) = cn &&& m by rw [HK.out, if_pos hb])
        go_wp2
        go_round
        case rel => exact ⟨k + 1, by omega, by go_num, by rw [HE.out, HA.out]⟩
        case measure => simp [intOf]; omega
      | false =>
        have HE := hid (show comN n rows ch (k + 1) = cn by rw [HK.out, hb]; rfl)
        go_wp2
        go_round
        case rel => exact ⟨k + 1, by omega, by go_num, by rw [HE.out]⟩
        case measure => simp [intOf]; omega
    · obtain rfl : k = rows.length := by omega
      go_wp2
      go_ret
      exact ⟨rfl, rfl⟩

set_option maxRecDepth 100000 in
set_option maxHeartbeats 2000000 in
theorem eaters_any (a : Option Addr) (rows : List Int) (cap : Nat) (m : Nat) (w : World) (h : Ints w a rows) (hr : ∀ x ∈ rows, 0 ≤ x) (hm : m < 256) (hl : rows.length ≤ 8) :
  Calls Try.prog 51 #[.slice a rows.length cap, .int .i64 m] w fun en w' => w = w' ∧ en = .returned (.int .i64 (eatN rows m rows.length : Nat)) := by
  have HH := hid h
  have HB := hid hr
  clear h hr
  go_enter Try.func51, Try.ntmps51
  go_wp2
  go_loop [5, 10] (fun v i => ∃ k : Nat, k ≤ rows.length ∧ i = .int .i64 k ∧ v = .int .i64 (eatN rows m k : Nat)) (fun _ i => rows.length - (intOf i).toNat)
  case atStart => exact ⟨0, Nat.zero_le _, rfl, rfl⟩
  case round =>
    obtain ⟨k, hk, rfl, rfl⟩ := hrel
    by_cases hlt : k < rows.length
    · rcases HH.out.at_ with e | ⟨b, off, rfl, hcc⟩
      · rw [e] at hlt; simp at hlt
      have c0 := hcc k hlt
      have hx0 := HB.out _ (getD_mem rows k hlt)
      have hx1 := HH.out.bdAt k hlt
      have HK := hid (show eatN rows m (k + 1) = if m &&& rowN rows k = m then eatN rows m k ||| 2 ^ k else eatN rows m k from rfl)
      have hcl : eatN rows m k < 2 ^ k := eatN_lt 8 rows m k (by omega)
      unfold rowN at HK
      clear hcc
      generalize rows[k]?.getD 0 = x at *
      obtain ⟨r, rfl⟩ := Int.eq_ofNat_of_zero_le hx0
      rw [Int.toNat_natCast] at HK
      generalize eatN rows m k = en at *
      by_cases hs : m &&& r = m
      · have hs1 : bits .andNot .i64 (m : Int) (r : Int) = 0 := by
          rw [i64_andNot_n m r (by omega) (by omega), (andNot_keep m r (by omega) (by omega)).2 hs]; rfl
        have HE := hid (show eatN rows m (k + 1) = en ||| 2 ^ k by rw [HK.out, if_pos hs])
        have HO := hid (show Value.int .i64 (bits .or .i64 (en : Int) (wrap64 (2 ^ k))) = .int .i64 ((en ||| 2 ^ k : Nat) : Int) by
          have h2 := two_pow_lt (show k < 63 by omega)
          rw [pow_wrap k (by omega), i64_or_n en _ (Nat.lt_of_lt_of_le hcl (Nat.le_trans (Nat.pow_le_pow_right (n := 2) (by omega) (show k ≤ 8 by omega)) (by omega))) (by omega)])
        go_wp2
        go_round
        case rel => exact ⟨k + 1, by omega, by go_num, by rw [HE.out]; exact HO.out⟩
        case measure => simp [intOf]; omega
      · have hs1 : ¬ bits .andNot .i64 (m : Int) (r : Int) = 0 := by
          rw [i64_andNot_n m r (by omega) (by omega)]
          intro hz
          exact hs ((andNot_keep m r (by omega) (by omega)).1 (by omega))
        have HE := hid (show eatN rows m (k + 1) = en by rw [HK.out, if_neg hs])
        go_wp2
        go_round
        case rel => exact ⟨k + 1, by omega, by go_num, by rw [HE.out]⟩
        case measure => simp [intOf]; omega
    · obtain rfl : k = rows.length := by omega
      go_wp2
      go_ret
      exact ⟨rfl, rfl⟩

set_option maxRecDepth 100000 in
set_option maxHeartbeats 2000000 in
theorem dishes_any (a : Option Addr) (rows : List Int) (cap : Nat) (d s : Int) (w : World) (h : Ints w a rows) :
  Calls Try.prog 52 #[.slice a rows.length cap, .int .i64 d, .int .i64 s] w (PairR w (dishesL rows d s)) := by
  have HV := hid (validTab_any a rows cap d w h)
  by_cases hz : validTab rows d = 0
  · obtain ⟨h0, h8, hr8, hrr⟩ := validTab_ok hz
    have hl := hr8
    obtain ⟨n, rfl⟩ := Int.eq_ofNat_of_zero_le h0
    have HR := hid (show dishesL rows (n : Int) s = if choiceB s rows.length then (((comN n rows s.toNat rows.length : Nat) : Int), 0) else (0, 1) by rw [dishesL, if_neg (by simp [hz]), Int.toNat_natCast])
    rw [hz] at HV
    clear hz
    have hp : 2 ^ rows.length ≤ 256 := Nat.pow_le_pow_right (n := 2) (by omega) hr8
    cases hs : choiceB s rows.length with
    | true =>
      have h1 : 0 ≤ s ∧ s < ((2 ^ rows.length : Nat) : Int) := by simpa [choiceB] using hs
      obtain ⟨m, rfl⟩ := Int.eq_ofNat_of_zero_le h1.1
      have HC := hid (commonDishes_any a rows cap n m w h (fun x hx => (hrr x hx).1) (by omega) (by omega) hr8)
      have HR2 := hid (show dishesL rows (n : Int) (m : Int) = (((comN n rows m rows.length : Nat) : Int), 0) by rw [HR.out, if_pos hs, Int.toNat_natCast])
      have HS := hid (isChoice_any m rows.length w (by omega))
      rw [hs] at HS
      clear hrr
      go_enter Try.func52, Try.ntmps52
      go_wp2_with fail
      refine HV.out.mono ?_
      rintro e w' ⟨rfl, rfl⟩
      go_wp2_with fail
      refine HS.out.mono ?_
      rintro e w' ⟨rfl, rfl⟩
      go_wp2_with fail
      refine HC.out.mono ?_
      rintro e w' ⟨rfl, rfl⟩
      go_wp2
      refine bodyPost_ret (v := .tuple #[.int .i64 (comN n rows m rows.length : Nat), .int .i64 0]) (by simp [results, Try.results52, go_sem]) rfl ⟨Below.refl _ _, by rw [HR2.out]⟩
    | false =>
      have HR2 := hid (show dishesL rows (n : Int) s = (0, 1) by rw [HR.out, if_neg (by rw [hs]; simp)])
      have HS := hid (isChoice_any s rows.length w (by omega))
      rw [hs] at HS
      clear hrr
      go_enter Try.func52, Try.ntmps52
      go_wp2_with fail
      refine HV.out.mono ?_
      rintro e w' ⟨rfl, rfl⟩
      go_wp2_with fail
      refine HS.out.mono ?_
      rintro e w' ⟨rfl, rfl⟩
      go_wp2
      refine bodyPost_ret (v := .tuple #[.int .i64 0, .int .i64 1]) (by simp [results, Try.results52, go_sem]) rfl ⟨Below.refl _ _, by rw [HR2.out]⟩
  · have hz' : (validTab rows d != 0) = true := by simp [hz]
    have HR := hid (show dishesL rows d s = (0, validTab rows d) by rw [dishesL, if_pos hz])
    clear hz
    generalize validTab rows d = x at *
    go_enter Try.func52, Try.ntmps52
    go_wp2_with fail
    refine HV.out.mono ?_
    rintro e w' ⟨rfl, rfl⟩
    go_wp2
    refine bodyPost_ret (v := .tuple #[.int .i64 0, .int .i64 x]) (by simp [results, Try.results52, go_sem]) rfl ⟨Below.refl _ _, by rw [HR.out]⟩

set_option maxRecDepth 100000 in
set_option maxHeartbeats 2000000 in
theorem children_any (a : Option Addr) (rows : List Int) (cap : Nat) (d s : Int) (w : World) (h : Ints w a rows) :
  Calls Try.prog 53 #[.slice a rows.length cap, .int .i64 d, .int .i64 s] w (PairR w (childrenL rows d s)) := by
  have HV := hid (validTab_any a rows cap d w h)
  by_cases hz : validTab rows d = 0
  · obtain ⟨h0, h8, hr8, hrr⟩ := validTab_ok hz
    obtain ⟨n, rfl⟩ := Int.eq_ofNat_of_zero_le h0
    have HR := hid (show childrenL rows (n : Int) s = if choiceB s (n : Int) then (((eatN rows s.toNat rows.length : Nat) : Int), 0) else (0, 1) by rw [childrenL, if_neg (by simp [hz])])
    rw [hz] at HV
    clear hz
    have hp : 2 ^ n ≤ 256 := Nat.pow_le_pow_right (n := 2) (by omega) (show n ≤ 8 by omega)
    cases hs : choiceB s (n : Int) with
    | true =>
      have h1 : 0 ≤ s ∧ s < ((2 ^ n : Nat) : Int) := by simpa [choiceB] using hs
      obtain ⟨m, rfl⟩ := Int.eq_ofNat_of_zero_le h1.1
      have HC := hid (eaters_any a rows cap m w h (fun x hx => (hrr x hx).1) (by omega) hr8)
      have HR2 := hid (show childrenL rows (n : Int) (m : Int) = (((eatN rows m rows.length : Nat) : Int), 0) by rw [HR.out, if_pos hs, Int.toNat_natCast])
      have HS := hid (isChoice_any m n w (by omega))
      rw [hs] at HS
      clear hrr
      go_enter Try.func53, Try.ntmps53
      go_wp2_with fail
      refine HV.out.mono ?_
      rintro e w' ⟨rfl, rfl⟩
      go_wp2_with fail
      refine HS.out.mono ?_
      rintro e w' ⟨rfl, rfl⟩
      go_wp2_with fail
      refine HC.out.mono ?_
      rintro e w' ⟨rfl, rfl⟩
      go_wp2
      refine bodyPost_ret (v := .tuple #[.int .i64 (eatN rows m rows.length : Nat), .int .i64 0]) (by simp [results, Try.results53, go_sem]) rfl ⟨Below.refl _ _, by rw [HR2.out]⟩
    | false =>
      have HR2 := hid (show childrenL rows (n : Int) s = (0, 1) by rw [HR.out, if_neg (by rw [hs]; simp)])
      have HS := hid (isChoice_any s n w (by omega))
      rw [hs] at HS
      clear hrr
      go_enter Try.func53, Try.ntmps53
      go_wp2_with fail
      refine HV.out.mono ?_
      rintro e w' ⟨rfl, rfl⟩
      go_wp2_with fail
      refine HS.out.mono ?_
      rintro e w' ⟨rfl, rfl⟩
      go_wp2
      refine bodyPost_ret (v := .tuple #[.int .i64 0, .int .i64 1]) (by simp [results, Try.results53, go_sem]) rfl ⟨Below.refl _ _, by rw [HR2.out]⟩
  · have hz' : (validTab rows d != 0) = true := by simp [hz]
    have HR := hid (show childrenL rows d s = (0, validTab rows d) by rw [childrenL, if_pos hz])
    clear hz
    generalize validTab rows d = x at *
    go_enter Try.func53, Try.ntmps53
    go_wp2_with fail
    refine HV.out.mono ?_
    rintro e w' ⟨rfl, rfl⟩
    go_wp2
    refine bodyPost_ret (v := .tuple #[.int .i64 0, .int .i64 x]) (by simp [results, Try.results53, go_sem]) rfl ⟨Below.refl _ _, by rw [HR.out]⟩

end Go.Proofs.Ytongejajkifccab
