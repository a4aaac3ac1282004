/- How often the office may err: the document's own. -/
import Derived.Test.YtfjncmhbpfcdiaaGuBd
set_option linter.unusedVariables false
namespace Go.Proofs.Ytfjncmhbpfcdiaa
open Go.RowKit

set_option maxRecDepth 100000 in
set_option maxHeartbeats 4000000 in
theorem grBound_any (a v : Int) (w : World) : Calls Try.prog 33 #[.int .i64 a, .int .i64 v] w (PairB w (boundV a v)) := by
  have HE := hid (show boundV a v = if 1 ≤ a ∧ a ≤ 8 ∧ 0 ≤ v ∧ v ≤ 24 then ((bndTo a.toNat v.toNat 25 : Int), 0) else (0, 1) from rfl)
  by_cases hb : 1 ≤ a
  case neg =>
    have hb0 : a < 1 := by omega
    have HF := hid ((HE.out).trans (if_neg (fun h => hb h.1)))
    clear hb HE
    go_enter Try.func33, Try.ntmps33
    go_wp2
    go_ret2
    exact ⟨rfl, by rw [HF.out]; rfl⟩
  have hc0 := hb
  clear hb
  by_cases hb : a ≤ 8
  case neg =>
    have hb1 : 8 < a := by omega
    have HF := hid ((HE.out).trans (if_neg (fun h => hb h.2.1)))
    clear hb HE
    go_enter Try.func33, Try.ntmps33
    go_wp2
    go_ret2
    exact ⟨rfl, by rw [HF.out]; rfl⟩
  have hc1 := hb
  clear hb
  by_cases hb : 0 ≤ v
  case neg =>
    have hb2 : v < 0 := by omega
    have HF := hid ((HE.out).trans (if_neg (fun h => hb h.2.2.1)))
    clear hb HE
    go_enter Try.func33, Try.ntmps33
    go_wp2
    go_ret2
    exact ⟨rfl, by rw [HF.out]; rfl⟩
  have hc2 := hb
  clear hb
  by_cases hb : v ≤ 24
  case neg =>
    have hb3 : 24 < v := by omega
    have HF := hid ((HE.out).trans (if_neg (fun h => hb h.2.2.2)))
    clear hb HE
    go_enter Try.func33, Try.ntmps33
    go_wp2
    go_ret2
    exact ⟨rfl, by rw [HF.out]; rfl⟩
  have hc3 := hb
  clear hb
  have HE2 := hid ((HE.out).trans (if_pos ⟨hc0, hc1, hc2, hc3⟩))
  obtain ⟨n, rfl⟩ := Int.eq_ofNat_of_zero_le (show 0 ≤ a by omega)
  obtain ⟨u, rfl⟩ := Int.eq_ofNat_of_zero_le hc2
  rw [Int.toNat_natCast, Int.toNat_natCast] at HE2
  have hn : n ≤ 8 := by omega
  have hn1 : 1 ≤ n := by omega
  have hu : u ≤ 24 := by omega
  have HS := hid (show ∀ k, bndTo n u (k + 1) = if bndP n u k = true then k else bndTo n u k from fun k => rfl)
  have HL := hid (fun k => bndTo_le n u k)
  have HT := hid (fun k hk => tri_bd n k hn hk)
  have HI := hid (fun k => bndP_iff n u k)
  have HP := hid (fun k (hk : k ≤ 24) => pow48 (2 * k - u) (by omega))
  have HM := hid (show ∀ k, n * 3 ^ (k + 1) = n * 3 ^ k * 3 from fun k => by rw [Nat.pow_succ, Nat.mul_assoc])
  have H0 := hid (show n * 3 ^ 0 = n by simp)
  have H1 := hid (show ∀ k, 2 * k ≤ u → bndP n u k = true from fun k hk => by
    unfold bndP
    rw [show 2 * k - u = 0 by omega, decide_eq_true_eq]
    exact Nat.mul_pos hn1 (Nat.pow_pos (by omega)))
  clear HE
  go_enter Try.func33, Try.ntmps33
  go_wp2
  go_loop [6, 7] (fun t i => ∃ (k : Nat), k ≤ 25 ∧ i = .int .i64 k ∧ t = .int .i64 (bndTo n u k : Nat)) (fun _ i => 25 - (intOf i).toNat)
  case atStart => exact ⟨0, Nat.zero_le _, rfl, rfl⟩
  case round =>
    obtain ⟨k, hk, rfl, rfl⟩ := hrel
    by_cases hlt : k ≤ 24
    · have hb := HL.out k
      have hp := HP.out k hlt
      have HN := hid (HS.out k)
      have HI2 := hid (HI.out k)
      have HTk := hid (HT.out k (by omega))
      have HM1 := hid (H1.out k)
      have hlt' : (k : Int) ≤ 24 := by omega
      generalize bndTo n u k = b at *
      generalize hb2 : bndP n u k = bp at *
      clear hb2
      by_cases hz : 2 * k < u
      · have hz1 : 2 * (k : Int) < (u : Int) := by omega
        have HN2 := hid ((HN.out).trans (if_pos (HM1.out (by omega))))
        clear hz HN HI2 HM1
        go_wp2
        go_loop [10, 11] (fun t i => ∃ (j : Nat), j ≤ k ∧ i = .int .i64 j ∧ t = .int .i64 (n * 3 ^ j : Nat)) (fun _ i => k - (intOf i).toNat)
        case atStart => exact ⟨0, Nat.zero_le _, rfl, by rw [H0.out]⟩
        case round =>
          obtain ⟨j, hj, rfl, rfl⟩ := hrel
          by_cases hjk : j < k
          · have ht := HT.out j (by omega)
            have ht2 := HT.out (j + 1) (by omega)
            have HMk := hid (HM.out j)
            rw [HMk.out] at ht2
            generalize n * 3 ^ j = r at *
            go_wp2
            go_round
            case rel => exact ⟨j + 1, by omega, by go_num, by rw [HMk.out]; go_num⟩
            case measure => simp [intOf]; omega
          · obtain rfl : j = k := by omega
            have ht := HT.out j (by omega)
            generalize n * 3 ^ j = r at *
            have hz2 : 0 < (u : Int) - 2 * (j : Int) := by omega
            go_wp2
            go_round
            case rel => exact ⟨j + 1, by omega, by go_num, by rw [HN2.out]⟩
            case measure => simp [intOf]; omega
      · have hz1 : (u : Int) ≤ 2 * (k : Int) := by omega
        have hz2 : 0 ≤ 2 * (k : Int) - (u : Int) := by omega
        have hz3 : 2 * (k : Int) - (u : Int) ≤ 48 := by omega
        clear HM1
        go_wp2
        go_loop [10, 11] (fun t i => ∃ (j : Nat), j ≤ k ∧ i = .int .i64 j ∧ t = .int .i64 (n * 3 ^ j : Nat)) (fun _ i => k - (intOf i).toNat)
        case atStart => exact ⟨0, Nat.zero_le _, rfl, by rw [H0.out]⟩
        case round =>
          obtain ⟨j, hj, rfl, rfl⟩ := hrel
          by_cases hjk : j < k
          · have ht := HT.out j (by omega)
            have ht2 := HT.out (j + 1) (by omega)
            have HMk := hid (HM.out j)
            rw [HMk.out] at ht2
            generalize n * 3 ^ j = r at *
            go_wp2
            go_round
            case rel => exact ⟨j + 1, by omega, by go_num, by rw [HMk.out]; go_num⟩
            case measure => simp [intOf]; omega
          · obtain rfl : j = k := by omega
            have ht := HT.out j (by omega)
            generalize n * 3 ^ j = r at *
            cases bp with
            | true =>
              have HN2 := hid ((HN.out).trans (if_pos rfl))
              have hle : (2 : Int) ^ (2 * j - u) ≤ (r : Int) := by have := HI2.out.symm; rw [decide_eq_true_eq] at this; exact this
              clear HN HI2
              go_wp2
              go_round
              case rel => exact ⟨j + 1, by omega, by go_num, by rw [HN2.out]⟩
              case measure => simp [intOf]; omega
            | false =>
              have HN2 := hid ((HN.out).trans (if_neg (by simp)))
              have hle : (r : Int) < (2 : Int) ^ (2 * j - u) := by have := HI2.out.symm; rw [decide_eq_false_iff_not] at this; omega
              clear HN HI2
              go_wp2
              go_round
              case rel => exact ⟨j + 1, by omega, by go_num, by rw [HN2.out]⟩
              case measure => simp [intOf]; omega
    · obtain rfl : k = 25 := by omega
      go_wp2
      go_ret2
      exact ⟨rfl, by rw [HE2.out]; rfl⟩
end Go.Proofs.Ytfjncmhbpfcdiaa
