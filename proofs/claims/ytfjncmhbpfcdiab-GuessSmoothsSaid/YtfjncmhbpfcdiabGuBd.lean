/- How often the office may err: package guess, and the document's own. -/
import Derived.Test.YtfjncmhbpfcdiabGuA
import Derived.IntWalk
set_option linter.unusedVariables false
namespace Go.Proofs.Ytfjncmhbpfcdiab
open Go.RowKit

theorem pow_cast' (k : Nat) : ((2 ^ k : Nat) : Int) = (2 : Int) ^ k := by rw [Int.natCast_pow]; rfl
theorem pow48 (n : Nat) (h : n ≤ 48) : ((2 : Int) ^ n) ≤ 281474976710656 ∧ 1 ≤ (2 : Int) ^ n := by
  have h1 : 2 ^ n ≤ 2 ^ 48 := Nat.pow_le_pow_right (by omega) h
  have h2 : 0 < 2 ^ n := Nat.pow_pos (by omega)
  rw [← pow_cast']
  exact ⟨Int.ofNat_le.2 h1, Int.ofNat_le.2 h2⟩
theorem tri_bd (a m : Nat) (h : a ≤ 8) (hm : m ≤ 25) : a * 3 ^ m ≤ 8 * 847288609443 := by
  have : 3 ^ m ≤ 3 ^ 25 := Nat.pow_le_pow_right (by omega) hm
  exact Nat.le_trans (Nat.mul_le_mul_right _ h) (Nat.mul_le_mul_left _ this)
def PairB (w : World) (p : Int × Int) (en : Ending) (w' : World) : Prop := w = w' ∧ en = .returned (.tuple #[.int .i64 p.1, .int .i64 p.2])
theorem bndP_iff (a v m : Nat) : bndP a v m = decide ((2 : Int) ^ (2 * m - v) ≤ ((a * 3 ^ m : Nat) : Int)) := by
  unfold bndP
  rw [← pow_cast']
  exact decide_eq_decide.2 Int.ofNat_le.symm
set_option maxRecDepth 100000 in
set_option maxHeartbeats 2000000 in
theorem gBound_any (a v : Int) (w : World) : Calls Try.prog 16 #[.int .i64 a, .int .i64 v] w (PairB w (boundV a v)) := by
  have HE := hid (show boundV a v = if 1 ≤ a ∧ a ≤ 8 ∧ 0 ≤ v ∧ v ≤ 24 then ((bndTo a.toNat v.toNat 25 : Int), 0) else (0, 1) from rfl)
  have HA := hid (fun W => gWithin_any a 1 8 W)
  have HV := hid (fun W => gWithin_any v 0 24 W)
  by_cases ha : 1 ≤ a ∧ a ≤ 8
  · rw [show cinB a 1 8 = true by simp [cinB]; omega] at HA
    by_cases hv : 0 ≤ v ∧ v ≤ 24
    · rw [show cinB v 0 24 = true by simp [cinB]; omega] at HV
      have HE2 := hid ((HE.out).trans (if_pos ⟨ha.1, ha.2, hv.1, hv.2⟩))
      obtain ⟨n, rfl⟩ := Int.eq_ofNat_of_zero_le (show 0 ≤ a by omega)
      obtain ⟨u, rfl⟩ := Int.eq_ofNat_of_zero_le hv.1
      rw [Int.toNat_natCast, Int.toNat_natCast] at HE2
      have hn : n ≤ 8 := by omega
      have hu : u ≤ 24 := by omega
      have HS := hid (show ∀ k, bndTo n u (k + 1) = if bndP n u k = true then k else bndTo n u k from fun k => rfl)
      have HL := hid (fun k => bndTo_le n u k)
      have HT := hid (fun k hk => tri_bd n k hn hk)
      have HI := hid (fun k => bndP_iff n u k)
      have HP := hid (fun k (hk : k ≤ 24) => pow48 (2 * k - u) (by omega))
      have HM := hid (show ∀ k, n * 3 ^ (k + 1) = n * 3 ^ k * 3 from fun k => by rw [Nat.pow_succ, Nat.mul_assoc])
      have H0 := hid (show n * 3 ^ 0 = n by simp)
      clear HE ha hv
      go_enter Try.func16, Try.ntmps16
      go_wp2_with fail
      refine (HA.out _).mono ?_
      rintro e w1 ⟨rfl, rfl⟩
      go_wp2_with fail
      refine (HV.out _).mono ?_
      rintro e w1 ⟨rfl, rfl⟩
      go_wp2
      go_loop [6, 7, 18] (fun t r i => ∃ (k : Nat), k ≤ 25 ∧ i = .int .i64 k ∧ t = .int .i64 (bndTo n u k : Nat) ∧ r = .int .i64 (n * 3 ^ k : Nat)) (fun _ _ i => 25 - (intOf i).toNat)
      case atStart => exact ⟨0, Nat.zero_le _, rfl, rfl, by rw [H0.out]⟩
      case round =>
        obtain ⟨k, hk, rfl, rfl, rfl⟩ := hrel
        by_cases hlt : k < 25
        · have hb := HL.out k
          have ht := HT.out k (by omega)
          have ht2 := HT.out (k + 1) (by omega)
          have hp := HP.out k (by omega)
          have HN := hid (HS.out k)
          have HI2 := hid (HI.out k)
          have HMk := hid (HM.out k)
          rw [HMk.out] at ht2
          generalize n * 3 ^ k = r at *
          generalize bndTo n u k = b at *
          generalize hb2 : bndP n u k = bp at *
          clear hb2
          by_cases hz : u < 2 * k
          · have hz1 : 0 < 2 * (k : Int) - (u : Int) := by omega
            have hz2 : ¬ (2 * (k : Int) - (u : Int) < 0) := by omega
            have hz3 : 2 * (k : Int) - (u : Int) ≤ 48 := by omega
            cases bp with
            | true =>
              have HN2 := hid ((HN.out).trans (if_pos rfl))
              have hle : (2 : Int) ^ (2 * k - u) ≤ (r : Int) := by have := HI2.out.symm; rw [decide_eq_true_eq] at this; first | exact this | omega
              clear HN HI2
              go_wp2
              go_round
              case rel => exact ⟨k + 1, by omega, by go_num, by rw [HN2.out], by rw [HMk.out]; go_num⟩
              case measure => simp [intOf]; omega
            | false =>
              have HN2 := hid ((HN.out).trans (if_neg (by simp)))
              have hle : (r : Int) < (2 : Int) ^ (2 * k - u) := by have := HI2.out.symm; rw [decide_eq_false_iff_not] at this; first | exact this | omega
              clear HN HI2
              go_wp2
              go_round
              case rel => exact ⟨k + 1, by omega, by go_num, by rw [HN2.out], by rw [HMk.out]; go_num⟩
              case measure => simp [intOf]; omega
          · rcases Nat.lt_or_ge (2 * k) u with hz' | hz'
            · have hz1 : 2 * (k : Int) - (u : Int) < 0 := by omega
              cases bp with
              | true =>
                have HN2 := hid ((HN.out).trans (if_pos rfl))
                have hle : (1 : Int) ≤ (r : Int) := by have := HI2.out.symm; rw [decide_eq_true_eq] at this; rw [show 2 * k - u = 0 by omega, Int.pow_zero] at this; omega
                clear HN HI2
                go_wp2
                go_round
                case rel => exact ⟨k + 1, by omega, by go_num, by rw [HN2.out], by rw [HMk.out]; go_num⟩
                case measure => simp [intOf]; omega
              | false =>
                have HN2 := hid ((HN.out).trans (if_neg (by simp)))
                have hle : (r : Int) < 1 := by have := HI2.out.symm; rw [decide_eq_false_iff_not] at this; rw [show 2 * k - u = 0 by omega, Int.pow_zero] at this; omega
                clear HN HI2
                go_wp2
                go_round
                case rel => exact ⟨k + 1, by omega, by go_num, by rw [HN2.out], by rw [HMk.out]; go_num⟩
                case measure => simp [intOf]; omega
            · have hz1 : 2 * (k : Int) - (u : Int) = 0 := by omega
              cases bp with
              | true =>
                have HN2 := hid ((HN.out).trans (if_pos rfl))
                have hle : (1 : Int) ≤ (r : Int) := by have := HI2.out.symm; rw [decide_eq_true_eq] at this; rw [show 2 * k - u = 0 by omega, Int.pow_zero] at this; omega
                clear HN HI2
                go_wp2
                go_round
                case rel => exact ⟨k + 1, by omega, by go_num, by rw [HN2.out], by rw [HMk.out]; go_num⟩
                case measure => simp [intOf]; omega
              | false =>
                have HN2 := hid ((HN.out).trans (if_neg (by simp)))
                have hle : (r : Int) < 1 := by have := HI2.out.symm; rw [decide_eq_false_iff_not] at this; rw [show 2 * k - u = 0 by omega, Int.pow_zero] at this; omega
                clear HN HI2
                go_wp2
                go_round
                case rel => exact ⟨k + 1, by omega, by go_num, by rw [HN2.out], by rw [HMk.out]; go_num⟩
                case measure => simp [intOf]; omega
        · obtain rfl : k = 25 := by omega
          go_wp2
          go_ret2
          exact ⟨rfl, by rw [HE2.out]; rfl⟩
    · rw [show cinB v 0 24 = false by simp [cinB]; omega] at HV
      have HE2 := hid ((HE.out).trans (if_neg (fun h => hv ⟨h.2.2.1, h.2.2.2⟩)))
      clear HE ha hv
      go_enter Try.func16, Try.ntmps16
      go_wp2_with fail
      refine (HA.out _).mono ?_
      rintro e w1 ⟨rfl, rfl⟩
      go_wp2_with fail
      refine (HV.out _).mono ?_
      rintro e w1 ⟨rfl, rfl⟩
      go_wp2
      go_ret2
      exact ⟨rfl, by rw [HE2.out]; rfl⟩
  · rw [show cinB a 1 8 = false by simp [cinB]; omega] at HA
    have HE2 := hid ((HE.out).trans (if_neg (fun h => ha ⟨h.1, h.2.1⟩)))
    clear HE ha
    go_enter Try.func16, Try.ntmps16
    go_wp2_with fail
    refine (HA.out _).mono ?_
    rintro e w1 ⟨rfl, rfl⟩
    go_wp2
    go_ret2
    exact ⟨rfl, by rw [HE2.out]; rfl⟩
end Go.Proofs.Ytfjncmhbpfcdiab
