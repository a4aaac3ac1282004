/- Tables of the document's own answers: eats, common, eaters, Dishes, Children. -/
import Derived.Test.YtongejajkifccaaTabSets
set_option linter.unusedVariables false
namespace Go.Proofs.Ytongejajkifccaa
open Go.RowKit

theorem shr_one (m x : Nat) (hm : m < 256) (hx : x < 8) : (bits .and .i64 ((m : Int) / 2 ^ x) 1 == 1) = m.testBit x := by
  have e : ((m : Int) / 2 ^ x) = ((m / 2 ^ x : Nat) : Int) := by rw [Int.natCast_ediv]; simp
  have hl : m / 2 ^ x < 9223372036854775808 := Nat.lt_of_le_of_lt (Nat.div_le_self _ _) (by omega)
  rw [e, show (1 : Int) = ((1 : Nat) : Int) from rfl, i64_and_n _ _ hl (by omega), Nat.and_one_is_mod]
  have hb : (m / 2 ^ x % 2 = 1) = (m.testBit x = true) := bit_all ⟨m, hm⟩ ⟨x, hx⟩
  generalize m / 2 ^ x = q at *
  cases h : m.testBit x with
  | true =>
    have : q % 2 = 1 := by rw [hb]; exact h
    simp [this]
  | false =>
    have : ¬ q % 2 = 1 := by rw [hb, h]; simp
    have : q % 2 = 0 := by omega
    simp [this]
theorem addN_step (p k : Nat) (hp : p < 2 ^ k) (hk : k ≤ 8) : wrap64 ((p : Int) + wrap64 (2 ^ k)) = ((p + 2 ^ k : Nat) : Int) := by
  have h1 : 2 ^ k ≤ 256 := Nat.pow_le_pow_right (n := 2) (by omega) hk
  rw [pow_wrap k (by omega)]
  generalize 2 ^ k = q at *
  rw [wrap64]
  omega

set_option maxRecDepth 100000 in
set_option maxHeartbeats 2000000 in
theorem eats_any (a : Option Addr) (rows : List Int) (cap : Nat) (c d : Nat) (w : World) (h : Ints w a rows) (hr : ∀ x ∈ rows, 0 ≤ x ∧ x < 256) (hc : c < rows.length) (hd : d < 8) :
  Calls Try.prog 123 #[.slice a rows.length cap, .int .i64 c, .int .i64 d] w (BoolR w ((rowN rows c).testBit d)) := by
  have hlen := h.len
  rcases h.at_ with e | ⟨b, off, rfl, hcc⟩
  · rw [e] at hc; simp at hc
  have c0 := hcc c hc
  have hx0 := hr _ (getD_mem rows c hc)
  have HR := hid (show rowN rows c = (rows[c]?.getD 0).toNat from rfl)
  clear hcc h hr
  generalize rows[c]?.getD 0 = x at *
  obtain ⟨m, rfl⟩ := Int.eq_ofNat_of_zero_le hx0.1
  rw [Int.toNat_natCast] at HR
  rw [HR.out]
  have HS := hid (shr_one m d (by omega) hd)
  go_enter Try.func123, Try.ntmps123
  go_wp2
  go_ret
  exact ⟨Below.refl _ _, ret_bool HS.out⟩

set_option maxRecDepth 100000 in
set_option maxHeartbeats 4000000 in
theorem rcommon_any (a : Option Addr) (rows : List Int) (cap : Nat) (n s : Nat) (w : World) (h : Ints w a rows) (hr : ∀ x ∈ rows, 0 ≤ x ∧ x < 256) (hn : n ≤ 8) (hl : rows.length ≤ 8) (hs : s < 256) :
  Calls Try.prog 102 #[.slice a rows.length cap, .int .i64 n, .int .i64 s] w (IntR w (addN (fun i => allCh rows s i rows.length) n : Nat)) := by
  have HH := hid h
  have HB := hid hr
  clear h hr
  go_enter Try.func102, Try.ntmps102
  go_wp2
  go_loopw [7, 8] (fun v i wr => ∃ k : Nat, k ≤ n ∧ i = .int .i64 k ∧ v = .int .i64 (addN (fun i => allCh rows s i rows.length) k : Nat) ∧ Below w.heap.size w wr) (fun _ i _ => n - (intOf i).toNat)
  case atStart => exact ⟨0, Nat.zero_le _, rfl, rfl, Below.refl _ _⟩
  case round =>
    obtain ⟨k, hk, rfl, rfl, hB⟩ := hrel
    by_cases hlt : k < n
    · have HK := hid (show addN (fun i => allCh rows s i rows.length) (k + 1) = if allCh rows s k rows.length then addN (fun i => allCh rows s i rows.length) k + 2 ^ k else addN (fun i => allCh rows s i rows.length) k from rfl)
      have hal : addN (fun i => allCh rows s i rows.length) k < 2 ^ k := addN_lt _ _
      generalize addN (fun i => allCh rows s i rows.length) k = p at *
      have HD := hid (addN_step p k hal (by omega))
      clear hal
      go_wp2
      obtain ⟨wo, rfl⟩ : ∃ wo : World, wo = wr := ⟨_, rfl⟩
      go_loopw [9, 10] (fun v i w2 => ∃ j : Nat, j ≤ rows.length ∧ v = .bool (allCh rows s k j) ∧ i = .int .i64 j ∧ Below w.heap.size w w2) (fun _ i _ => rows.length - (intOf i).toNat)
      case atStart => exact ⟨0, Nat.zero_le _, rfl, rfl, hB⟩
      case round =>
        clear hB
        obtain ⟨j, hj, rfl, rfl, hB⟩ := hrel
        by_cases hjn : j < rows.length
        · have HJ := hid (show allCh rows s k (j + 1) = (allCh rows s k j && (!s.testBit j || (rowN rows j).testBit k)) from rfl)
          cases ha : allCh rows s k j with
          | true =>
            rw [ha] at HJ
            cases hb : s.testBit j with
            | true =>
              have hbit : ¬ bits .and .i64 ((s : Int) / 2 ^ j) 1 = 0 := by rw [shr_bit s j hs (by omega), hb]; simp
              rw [hb] at HJ
              go_wp2_with fail
              refine (eats_any _ _ _ j k _ (HH.out.below hB) HB.out (by omega) (by omega)).mono ?_
              rintro e w3 ⟨q3, rfl⟩
              have p3 := hB.trans (q3.mono hB.size)
              generalize (rowN rows j).testBit k = fb at *
              go_wp2
              go_roundw
              case rel => exact ⟨j + 1, by omega, by rw [HJ.out]; simp [hbit], by go_num, p3⟩
              case measure => simp [intOf]; omega
            | false =>
              have hbit : bits .and .i64 ((s : Int) / 2 ^ j) 1 = 0 := by rw [shr_bit s j hs (by omega), hb]
              rw [hb] at HJ
              go_wp2
              go_roundw
              case rel => exact ⟨j + 1, by omega, by rw [HJ.out]; rfl, by go_num, hB⟩
              case measure => simp [intOf]; omega
          | false =>
            rw [ha] at HJ
            go_wp2
            go_roundw
            case rel => exact ⟨j + 1, by omega, by rw [HJ.out]; rfl, by go_num, hB⟩
            case measure => simp [intOf]; omega
        · obtain rfl : j = rows.length := by omega
          cases ha : allCh rows s k rows.length with
          | true =>
            have HK2 := hid (show addN (fun i => allCh rows s i rows.length) (k + 1) = p + 2 ^ k by rw [HK.out, ha]; rfl)
            go_wp2
            go_roundw
            case rel => exact ⟨k + 1, by omega, by go_num, by rw [HD.out, ← HK2.out], hB⟩
            case measure => simp [intOf]; omega
          | false =>
            have HK2 := hid (show addN (fun i => allCh rows s i rows.length) (k + 1) = p by rw [HK.out, ha]; rfl)
            go_wp2
            go_roundw
            case rel => exact ⟨k + 1, by omega, by go_num, by rw [← HK2.out], hB⟩
            case measure => simp [intOf]; omega
    · obtain rfl : k = n := by omega
      go_wp2
      go_ret
      exact ⟨hB, rfl⟩

set_option maxRecDepth 100000 in
set_option maxHeartbeats 4000000 in
theorem reaters_any (a : Option Addr) (rows : List Int) (cap : Nat) (n s : Nat) (w : World) (h : Ints w a rows) (hr : ∀ x ∈ rows, 0 ≤ x ∧ x < 256) (hn : n ≤ 8) (hl : rows.length ≤ 8) (hs : s < 256) :
  Calls Try.prog 104 #[.slice a rows.length cap, .int .i64 n, .int .i64 s] w (IntR w (addN (fun c => allDi (rowN rows c) s n) rows.length : Nat)) := by
  have HH := hid h
  have HB := hid hr
  clear h hr
  go_enter Try.func104, Try.ntmps104
  go_wp2
  go_loopw [7, 8] (fun v i wr => ∃ k : Nat, k ≤ rows.length ∧ i = .int .i64 k ∧ v = .int .i64 (addN (fun c => allDi (rowN rows c) s n) k : Nat) ∧ Below w.heap.size w wr) (fun _ i _ => rows.length - (intOf i).toNat)
  case atStart => exact ⟨0, Nat.zero_le _, rfl, rfl, Below.refl _ _⟩
  case round =>
    obtain ⟨k, hk, rfl, rfl, hB⟩ := hrel
    by_cases hlt : k < rows.length
    · have HK := hid (show addN (fun c => allDi (rowN rows c) s n) (k + 1) = if allDi (rowN rows k) s n then addN (fun c => allDi (rowN rows c) s n) k + 2 ^ k else addN (fun c => allDi (rowN rows c) s n) k from rfl)
      have hal : addN (fun c => allDi (rowN rows c) s n) k < 2 ^ k := addN_lt _ _
      generalize addN (fun c => allDi (rowN rows c) s n) k = p at *
      have HD := hid (addN_step p k hal (by omega))
      clear hal
      go_wp2
      obtain ⟨wo, rfl⟩ : ∃ wo : World, wo = wr := ⟨_, rfl⟩
      go_loopw [9, 10] (fun v i w2 => ∃ j : Nat, j ≤ n ∧ v = .bool (allDi (rowN rows k) s j) ∧ i = .int .i64 j ∧ Below w.heap.size w w2) (fun _ i _ => n - (intOf i).toNat)
      case atStart => exact ⟨0, Nat.zero_le _, rfl, rfl, hB⟩
      case round =>
        clear hB
        obtain ⟨j, hj, rfl, rfl, hB⟩ := hrel
        by_cases hjn : j < n
        · have HJ := hid (show allDi (rowN rows k) s (j + 1) = (allDi (rowN rows k) s j && (!s.testBit j || (rowN rows k).testBit j)) from rfl)
          cases ha : allDi (rowN rows k) s j with
          | true =>
            rw [ha] at HJ
            cases hb : s.testBit j with
            | true =>
              have hbit : ¬ bits .and .i64 ((s : Int) / 2 ^ j) 1 = 0 := by rw [shr_bit s j hs (by omega), hb]; simp
              rw [hb] at HJ
              go_wp2_with fail
              refine (eats_any _ _ _ k j _ (HH.out.below hB) HB.out (by omega) (by omega)).mono ?_
              rintro e w3 ⟨q3, rfl⟩
              have p3 := hB.trans (q3.mono hB.size)
              generalize (rowN rows k).testBit j = fb at *
              go_wp2
              go_roundw
              case rel => exact ⟨j + 1, by omega, by rw [HJ.out]; simp [hbit], by go_num, p3⟩
              case measure => simp [intOf]; omega
            | false =>
              have hbit : bits .and .i64 ((s : Int) / 2 ^ j) 1 = 0 := by rw [shr_bit s j hs (by omega), hb]
              rw [hb] at HJ
              go_wp2
              go_roundw
              case rel => exact ⟨j + 1, by omega, by rw [HJ.out]; rfl, by go_num, hB⟩
              case measure => simp [intOf]; omega
          | false =>
            rw [ha] at HJ
            go_wp2
            go_roundw
            case rel => exact ⟨j + 1, by omega, by rw [HJ.out]; rfl, by go_num, hB⟩
            case measure => simp [intOf]; omega
        · obtain rfl : j = n := by omega
          cases ha : allDi (rowN rows k) s j with
          | true =>
            have HK2 := hid (show addN (fun c => allDi (rowN rows c) s j) (k + 1) = p + 2 ^ k by rw [HK.out, ha]; rfl)
            go_wp2
            go_roundw
            case rel => exact ⟨k + 1, by omega, by go_num, by rw [HD.out, ← HK2.out], hB⟩
            case measure => simp [intOf]; omega
          | false =>
            have HK2 := hid (show addN (fun c => allDi (rowN rows c) s j) (k + 1) = p by rw [HK.out, ha]; rfl)
            go_wp2
            go_roundw
            case rel => exact ⟨k + 1, by omega, by go_num, by rw [← HK2.out], hB⟩
            case measure => simp [intOf]; omega
    · obtain rfl : k = rows.length := by omega
      go_wp2
      go_ret
      exact ⟨hB, rfl⟩

end Go.Proofs.Ytongejajkifccaa
