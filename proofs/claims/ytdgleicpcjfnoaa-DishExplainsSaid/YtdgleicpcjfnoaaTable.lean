/- Tables of package dish: isChoice, ValidateTable, feeds, hasSpare, Menus. -/
import Derived.Test.YtdgleicpcjfnoaaNumbers
import Derived.Test.YtdgleicpcjfnoaaTableM
set_option linter.unusedVariables false
namespace Go.Proofs.Ytdgleicpcjfnoaa
open Go.RowKit

theorem wrap64_is (x : Int) : wrap64 x = IntKind.i64.wrap x := by rw [IntKind.wrap_i64, wrap64]
theorem shl_one (n : Int) (h0 : 0 ≤ n) (h1 : n ≤ 60) : IntKind.i64.wrap (2 ^ min n.toNat 64) = ((2 ^ n.toNat : Nat) : Int) := by
  have e : min n.toNat 64 = n.toNat := by omega
  have h2 := two_pow_lt (show n.toNat < 63 by omega)
  have : ((2 : Int) ^ n.toNat) = ((2 ^ n.toNat : Nat) : Int) := by simp
  rw [e, IntKind.wrap_i64, this]
  generalize 2 ^ n.toNat = p at *
  omega

set_option maxHeartbeats 1000000 in
theorem isChoice_any (s : Int) (n : Nat) (w : World) (h1 : n ≤ 60) :
  Calls Try.prog 110 #[.int .i64 s, .int .i64 n] w fun en w' => w = w' ∧ en = .returned (.bool (choiceB s n)) := by
  have hp := two_pow_lt (show n < 63 by omega)
  have hpw : IntKind.i64.wrap (2 ^ n) = ((2 ^ n : Nat) : Int) := by
    have : ((2 : Int) ^ n) = ((2 ^ n : Nat) : Int) := by simp
    rw [IntKind.wrap_i64, this]
    generalize 2 ^ n = p at *
    omega
  by_cases h0 : 0 ≤ s
  · have HR := hid (show choiceB s n = decide (s < ((2 ^ n : Nat) : Int)) by simp [choiceB, h0])
    go_enter Try.func110, Try.ntmps110
    go_wp2
    go_ret
    exact ⟨rfl, ret_bool (by rw [HR.out]; simp)⟩
  · have HR := hid (show choiceB s n = false by simp [choiceB, h0])
    have h0' : s < 0 := by omega
    go_enter Try.func110, Try.ntmps110
    go_wp2
    go_ret
    exact ⟨rfl, ret_bool HR.out.symm⟩

set_option maxRecDepth 100000 in
set_option maxHeartbeats 2000000 in
theorem validTab_any (a : Option Addr) (rows : List Int) (cap : Nat) (d : Int) (w : World) (h : Ints w a rows) :
  Calls Try.prog 91 #[.slice a rows.length cap, .int .i64 d] w fun en w' => w = w' ∧ en = .returned (.int .i64 (validTab rows d)) := by
  have hlen := h.len
  have HH := hid h
  clear h
  by_cases h0 : d < 0
  · have HR := hid (show validTab rows d = 1 by rw [validTab, if_pos (.inl h0)])
    go_enter Try.func91, Try.ntmps91
    go_wp2
    go_ret
    exact ⟨rfl, ret_int HR.out.symm⟩
  · obtain ⟨n, rfl⟩ := Int.eq_ofNat_of_zero_le (show 0 ≤ d by omega)
    clear h0
    by_cases h1 : 8 < n
    · have HR := hid (show validTab rows n = 1 by rw [validTab, if_pos (.inr (by omega))])
      have h1' : (8 : Int) < (n : Int) := by omega
      go_enter Try.func91, Try.ntmps91
      go_wp2
      go_ret
      exact ⟨rfl, ret_int HR.out.symm⟩
    · have h1' : (n : Int) ≤ 8 := by omega
      by_cases h2 : 8 < rows.length
      · have HR := hid (show validTab rows n = 4 by rw [validTab, if_neg (by omega), if_pos h2])
        have h2' : (8 : Int) < (rows.length : Int) := by omega
        go_enter Try.func91, Try.ntmps91
        go_wp2
        go_ret
        exact ⟨rfl, ret_int HR.out.symm⟩
      · have HR := hid (show validTab rows n = if allChoice n rows then 0 else 1 by rw [validTab, if_neg (by omega), if_neg h2])
        have h2' : (rows.length : Int) ≤ 8 := by omega
        clear h1 h2
        go_enter Try.func91, Try.ntmps91
        go_wp2
        go_loop [18] (fun i => ∃ k : Nat, k ≤ rows.length ∧ i = .int .i64 k ∧ Hid (allChoice n rows = allChoice n (rows.drop k))) (fun i => rows.length - (intOf i).toNat)
        case atStart => exact ⟨0, Nat.zero_le _, rfl, rfl⟩
        case round =>
          obtain ⟨k, hk, rfl, HA⟩ := hrel
          by_cases hlt : k < rows.length
          · rcases HH.out.at_ with e | ⟨b, off, rfl, hc⟩
            · rw [e] at hlt; simp at hlt
            have c0 := hc k hlt
            have HD := hid (allChoice_drop n rows k hlt)
            clear hc
            generalize rows[k]?.getD 0 = x at *
            cases hx : choiceB x n with
            | true =>
              go_wp2_with fail
              refine (isChoice_any x n _ (by omega)).mono ?_
              rintro e w' ⟨rfl, rfl⟩
              rw [hx]
              go_wp2
              go_round
              case rel => exact ⟨k + 1, by omega, by go_num, by unfold Hid; rw [HA.out, HD.out, hx]; rfl⟩
              case measure => simp [intOf]; omega
            | false =>
              go_wp2_with fail
              refine (isChoice_any x n _ (by omega)).mono ?_
              rintro e w' ⟨rfl, rfl⟩
              rw [hx]
              go_wp2
              go_ret
              exact ⟨rfl, ret_int (by rw [HR.out, HA.out, HD.out, hx]; rfl)⟩
          · go_wp2
            go_ret
            exact ⟨rfl, ret_int (by rw [HR.out, HA.out, List.drop_of_length_le (by omega)]; rfl)⟩

set_option maxRecDepth 100000 in
set_option maxHeartbeats 2000000 in
theorem feeds_any (a : Option Addr) (rows : List Int) (cap : Nat) (m : Nat) (w : World) (h : Ints w a rows) (hr : ∀ x ∈ rows, 0 ≤ x) (hm : m < 9223372036854775808) :
  Calls Try.prog 92 #[.slice a rows.length cap, .int .i64 m] w fun en w' => w = w' ∧ en = .returned (.bool (feedsB m rows)) := by
  have hlen := h.len
  have HH := hid h
  have HB := hid hr
  clear h hr
  go_enter Try.func92, Try.ntmps92
  go_wp2
  go_loop [9] (fun i => ∃ k : Nat, k ≤ rows.length ∧ i = .int .i64 k ∧ Hid (feedsB m rows = feedsB m (rows.drop k))) (fun i => rows.length - (intOf i).toNat)
  case atStart => exact ⟨0, Nat.zero_le _, rfl, rfl⟩
  case round =>
    obtain ⟨k, hk, rfl, HA⟩ := hrel
    by_cases hlt : k < rows.length
    · rcases HH.out.at_ with e | ⟨b, off, rfl, hc⟩
      · rw [e] at hlt; simp at hlt
      have c0 := hc k hlt
      have HD := hid (feedsB_drop m rows k hlt)
      have hx0 := HB.out _ (getD_mem rows k hlt)
      have hx1 := HH.out.bdAt k hlt
      clear hc
      generalize rows[k]?.getD 0 = x at *
      obtain ⟨n, rfl⟩ := Int.eq_ofNat_of_zero_le hx0
      rw [Int.toNat_natCast] at HD
      have hb := i64_and_n n m (by omega) hm
      by_cases hz : n &&& m = 0
      · have ht : (bits .and .i64 (n : Int) (m : Int) == 0) = true := by rw [hb, hz]; rfl
        have HF := hid (show feedsB m rows = false by rw [HA.out, HD.out]; simp [hz])
        clear hb hz
        go_wp2
        go_ret
        exact ⟨rfl, ret_bool HF.out.symm⟩
      · have ht : (bits .and .i64 (n : Int) (m : Int) == 0) = false := by rw [hb]; simp; omega
        have HF := hid (show feedsB m rows = feedsB m (rows.drop (k + 1)) by rw [HA.out, HD.out]; simp [hz])
        clear hb hz
        go_wp2
        go_round
        case rel => exact ⟨k + 1, by omega, by go_num, HF⟩
        case measure => simp [intOf]; omega
    · go_wp2
      go_ret
      exact ⟨rfl, ret_bool (by rw [HA.out, List.drop_of_length_le (by omega)]; rfl)⟩

theorem without_bits (m x : Nat) (hm : m < 9223372036854775808) (hx : x < 62) : bits .andNot .i64 (m : Int) (IntKind.i64.wrap (2 ^ x)) = ((without m x : Nat) : Int) := by
  have h2 := two_pow_lt (show x < 63 by omega)
  have e : IntKind.i64.wrap (2 ^ x) = ((2 ^ x : Nat) : Int) := by
    have : ((2 : Int) ^ x) = ((2 ^ x : Nat) : Int) := by simp
    rw [IntKind.wrap_i64, this]
    generalize 2 ^ x = p at *
    omega
  rw [e, i64_andNot_n m _ hm (by omega)]
  rfl
theorem without_lt (m x : Nat) (hm : m < 9223372036854775808) : without m x < 9223372036854775808 := by
  unfold without
  rw [Nat.and_comm]
  exact Nat.and_lt_two_pow (n := 63) _ hm

set_option maxRecDepth 100000 in
set_option maxHeartbeats 2000000 in
theorem hasSpare_any (a : Option Addr) (rows : List Int) (cap : Nat) (m : Nat) (w : World) (h : Ints w a rows) (hr : ∀ x ∈ rows, 0 ≤ x) (hm : m < 1024) :
  Calls Try.prog 93 #[.slice a rows.length cap, .int .i64 m] w (BoolR w (spareB rows m (numsL m))) := by
  have hlen := h.len
  have hsm : ∀ x ∈ numsL m, 0 ≤ x ∧ x < 10 := fun x hx => by
    obtain ⟨i, rfl, _, hb⟩ := (mem_numsL m x).1 hx
    have : i < 10 := Nat.lt_of_not_le fun hh => by
      rw [Nat.testBit_lt_two_pow (Nat.lt_of_lt_of_le hm (Nat.pow_le_pow_right (n := 2) (by omega) hh))] at hb; cases hb
    omega
  have HS := hid hsm
  have hln := numsL_len m
  have hc64 : IntKind.u64.wrap (m : Int) = (m : Int) := by rw [IntKind.wrap_u64]; omega
  clear hsm
  go_enter Try.func93, Try.ntmps93
  go_wp2_with fail
  refine (numbers_any m _ (by omega)).mono ?_
  rintro e w1 ⟨q1, A, c, rfl, hown⟩
  have hI := h.below q1
  obtain ⟨A2, c2, hv, hN⟩ := hown.ints (by omega) (fun x hx => by have := HS.out x hx; omega)
  cases hv
  have HI := hid hI
  have HN := hid hN
  clear hI hN hown hc64 h
  have HB := hid hr
  clear hr
  generalize numsL m = ns at *
  go_wp2
  go_loop [11] (fun i => ∃ k : Nat, k ≤ ns.length ∧ i = .int .i64 k ∧ Hid (spareB rows m ns = spareB rows m (ns.drop k))) (fun i => ns.length - (intOf i).toNat)
  case atStart => exact ⟨0, Nat.zero_le _, rfl, rfl⟩
  case round =>
    obtain ⟨k, hk, rfl, HA⟩ := hrel
    by_cases hlt : k < ns.length
    · rcases HN.out.at_ with e | ⟨b, off, rfl, hc⟩
      · rw [e] at hlt; simp at hlt
      have c0 := hc k hlt
      have HD := hid (spareB_drop rows m ns k hlt)
      have hx0 := HS.out _ (getD_mem ns k hlt)
      clear hc
      generalize ns[k]?.getD 0 = x at *
      obtain ⟨n, rfl⟩ := Int.eq_ofNat_of_zero_le hx0.1
      rw [Int.toNat_natCast] at HD
      have HW := hid (show bits .andNot .i64 (m : Int) (wrap64 (2 ^ n)) = ((without m n : Nat) : Int) by rw [wrap64_is]; exact without_bits m n (by omega) (by omega))
      have hwl := without_lt m n (by omega)
      go_wp2_with fail
      rw [HW.out]
      refine (feeds_any _ _ _ _ _ HI.out HB.out hwl).mono ?_
      rintro e w' ⟨rfl, rfl⟩
      cases hf : feedsB (without m n) rows with
      | true =>
        go_wp2
        go_ret
        exact ⟨q1, ret_bool (by rw [HA.out, HD.out, hf]; rfl)⟩
      | false =>
        go_wp2
        go_round
        case rel => exact ⟨k + 1, by omega, by go_num, by unfold Hid; rw [HA.out, HD.out, hf]; rfl⟩
        case measure => simp [intOf]; omega
    · go_wp2
      go_ret
      exact ⟨q1, ret_bool (by rw [HA.out, List.drop_of_length_le (by omega)]; rfl)⟩

end Go.Proofs.Ytdgleicpcjfnoaa
