/- Sequences of wins and losses: package guess. -/
import Derived.Test.YtfjncmhbpfcdiabGuKn
import Derived.Test.YtfjncmhbpfcdiabGuTailM
import Derived.Test.YtfjncmhbpfcdiabRowsI
import Derived.IntWalk
set_option linter.unusedVariables false
namespace Go.Proofs.Ytfjncmhbpfcdiab
open Go.RowKit

theorem chs_div (n j : Nat) : chs n j * (n - j) / (j + 1) = chs n (j + 1) := by
  rw [chs_next]; exact Nat.mul_div_cancel _ (by omega)
theorem chs_bd (n j : Nat) (h : n ≤ 40) : chs n j ≤ 1099511627776 := by
  have h1 := chs_le n j
  have h2 : 2 ^ n ≤ 2 ^ 40 := Nat.pow_le_pow_right (by omega) h
  omega
theorem tailTo_bd (n k j : Nat) (h : n ≤ 40) : tailTo n k j ≤ 1099511627776 := by
  have h1 := tailTo_le n k j
  have h2 : 2 ^ n ≤ 2 ^ 40 := Nat.pow_le_pow_right (by omega) h
  omega
theorem tdivT_nat (x y : Nat) : Int.tdiv (x : Int) (y : Int) = ((x / y : Nat) : Int) := by
  rw [Int.tdiv_eq_ediv_of_nonneg (by omega)]; omega
set_option maxRecDepth 100000 in
set_option maxHeartbeats 2000000 in
theorem gTail_any (n q : Nat) (hn : n ≤ 40) (hq : q ≤ 40) (w : World) : Calls Try.prog 14 #[.int .i64 (n : Int), .int .i64 (q : Int)] w (NumG w (tailN n q : Nat)) := by
  have HC := hid (fun j => chs_bd n j hn)
  have HT := hid (fun j => tailTo_bd n q j hn)
  have HD := hid (fun j => chs_div n j)
  have HS := hid (show ∀ j, tailTo n q (j + 1) = tailTo n q j + if q ≤ j then chs n j else 0 from fun j => rfl)
  have H0 := hid (chs_zero n)
  have HE := hid (show tailN n q = tailTo n q (n + 1) from rfl)
  go_enter Try.func14, Try.ntmps14
  go_wp2
  go_loop [5, 6, 10] (fun s v i => ∃ j : Nat, j ≤ n + 1 ∧ i = .int .i64 j ∧ s = .int .i64 (tailTo n q j : Nat) ∧ v = .int .i64 (chs n j : Nat)) (fun _ _ i => n + 1 - (intOf i).toNat)
  case atStart => exact ⟨0, Nat.zero_le _, rfl, rfl, by rw [H0.out]; rfl⟩
  case round =>
    obtain ⟨j, hj, rfl, rfl, rfl⟩ := hrel
    by_cases hlt : j ≤ n
    · have hlt' : (j : Int) < (n : Int) + 1 := by omega
      have hc := HC.out j
      have hc2 := HC.out (j + 1)
      have ht := HT.out j
      have ht2 := HT.out (j + 1)
      have HDj := hid (HD.out j)
      have HSj := hid (HS.out j)
      generalize chs n j = v at *
      generalize hv2 : chs n (j + 1) = v2 at *
      have HV2 := hid hv2
      clear hv2
      generalize tailTo n q j = t at *
      have hmb : n - j ≤ 40 := by omega
      have HM := hid (show (n : Int) - (j : Int) = ((n - j : Nat) : Int) by omega)
      generalize n - j = m at *
      have hP : v * m ≤ 1099511627776 * 40 := Nat.mul_le_mul hc hmb
      have HPm := hid (show (v : Int) * (m : Int) = ((v * m : Nat) : Int) from (Int.natCast_mul v m).symm)
      have HQ := hid (show Int.tdiv ((v * m : Nat) : Int) ((j + 1 : Nat) : Int) = (v2 : Int) by rw [tdivT_nat, HDj.out])
      have HQ2 := hid (show ((v * m : Nat) : Int) / ((j + 1 : Nat) : Int) = (v2 : Int) by rw [← HDj.out]; omega)
      generalize v * m = pp at *
      rw [Int.natCast_succ] at HQ HQ2
      have e1 := HM.out
      have e2 := HPm.out
      have e3 := HQ.out
      have e4 := HQ2.out
      have hz : (j : Int) + 1 ≠ 0 := by omega
      have hz2 : 0 < (j : Int) + 1 := by omega
      by_cases hqj : q ≤ j
      · have dq : decide (q ≤ j) = true := decide_eq_true hqj
        have HN := hid ((HSj.out).trans (by rw [if_pos hqj] : _ = t + v))
        have ht3 : t + v ≤ 1099511627776 := by have := HN.out; omega
        clear hqj HSj
        go_wp2
        go_round
        case rel => exact ⟨j + 1, by omega, by go_num, by rw [HN.out]; go_num, by first | (rw [HV2.out]; done) | (rw [HV2.out]; exact congrArg (Value.int .i64) HQ2.out)⟩
        case measure => simp [intOf]; omega
      · have dq : decide (q ≤ j) = false := decide_eq_false hqj
        have HN := hid ((HSj.out).trans (by rw [if_neg hqj, Nat.add_zero] : _ = t))
        clear hqj HSj
        go_wp2
        go_round
        case rel => exact ⟨j + 1, by omega, by go_num, by rw [HN.out], by first | (rw [HV2.out]; done) | (rw [HV2.out]; exact congrArg (Value.int .i64) HQ2.out)⟩
        case measure => simp [intOf]; omega
    · obtain rfl : j = n + 1 := by omega
      have hlt' : ¬ (((n + 1 : Nat) : Int) < (n : Int) + 1) := by omega
      go_wp2
      go_ret
      exact ⟨rfl, by rw [HE.out]; rfl⟩

set_option maxHeartbeats 1000000 in
theorem gTailP_any (t q : Int) (w : World) : Calls Try.prog 6 #[.int .i64 t, .int .i64 q] w (PairB w (tailV t q)) := by
  have HE := hid (show tailV t q = if 0 ≤ t ∧ t ≤ 40 ∧ 0 ≤ q ∧ q ≤ t then (((tailN t.toNat q.toNat : Nat) : Int), 0) else (0, 1) from rfl)
  have HA := hid (fun W => gWithin_any t 0 40 W)
  have HV := hid (fun W => gWithin_any q 0 t W)
  by_cases ha : 0 ≤ t ∧ t ≤ 40
  · rw [show cinB t 0 40 = true by simp [cinB]; omega] at HA
    by_cases hv : 0 ≤ q ∧ q ≤ t
    · rw [show cinB q 0 t = true by simp [cinB]; omega] at HV
      have HE2 := hid ((HE.out).trans (if_pos ⟨ha.1, ha.2, hv.1, hv.2⟩))
      obtain ⟨n, rfl⟩ := Int.eq_ofNat_of_zero_le ha.1
      obtain ⟨k, rfl⟩ := Int.eq_ofNat_of_zero_le hv.1
      rw [Int.toNat_natCast, Int.toNat_natCast] at HE2
      have HT := hid (fun W => gTail_any n k (by omega) (by omega) W)
      clear HE ha hv
      generalize tailN n k = x at *
      go_enter Try.func6, Try.ntmps6
      go_wp2_with fail
      refine (HA.out _).mono ?_
      rintro e w1 ⟨rfl, rfl⟩
      go_wp2_with fail
      refine (HV.out _).mono ?_
      rintro e w1 ⟨rfl, rfl⟩
      go_wp2_with fail
      refine (HT.out _).mono ?_
      rintro e w1 ⟨rfl, rfl⟩
      go_wp2
      go_ret2
      exact ⟨rfl, by rw [HE2.out]; rfl⟩
    · rw [show cinB q 0 t = false by simp [cinB]; omega] at HV
      have HE2 := hid ((HE.out).trans (if_neg (fun h => hv ⟨h.2.2.1, h.2.2.2⟩)))
      clear HE ha hv
      go_enter Try.func6, Try.ntmps6
      go_wp2_with fail
      refine (HA.out _).mono ?_
      rintro e w1 ⟨rfl, rfl⟩
      go_wp2_with fail
      refine (HV.out _).mono ?_
      rintro e w1 ⟨rfl, rfl⟩
      go_wp2
      go_ret2
      exact ⟨rfl, by rw [HE2.out]; rfl⟩
  · rw [show cinB t 0 40 = false by simp [cinB]; omega] at HA
    have HE2 := hid ((HE.out).trans (if_neg (fun h => ha ⟨h.1, h.2.1⟩)))
    clear HE ha
    go_enter Try.func6, Try.ntmps6
    go_wp2_with fail
    refine (HA.out _).mono ?_
    rintro e w1 ⟨rfl, rfl⟩
    go_wp2
    go_ret2
    exact ⟨rfl, by rw [HE2.out]; rfl⟩
end Go.Proofs.Ytfjncmhbpfcdiab
