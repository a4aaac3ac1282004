/- Who is free, and prices. -/
import Derived.Test.YtcncnakpehnadaaOrRt
set_option linter.unusedVariables false
namespace Go.Proofs.Ytcncnakpehnadaa
open Go.RowKit

set_option maxRecDepth 100000 in
set_option maxHeartbeats 2000000 in
theorem isFree_any (a : Option Addr) (r : List Rgt) (cap : Nat) (c d : Int) (w : World) (hr : RgtsAt w a r) : Calls Try.prog 82 #[.slice a r.length cap, .int .i64 c, .int .i64 d] w (BoolR w (freeL c d r)) := by
  have hlen := hr.len
  have HR := hid hr
  clear hr
  go_enter Try.func82, Try.ntmps82
  go_wp2
  go_loopw [11] (fun i wr => ∃ k : Nat, k ≤ r.length ∧ i = .int .i64 k ∧ Hid (freeL c d r = freeL c d (r.drop k)) ∧ Below w.heap.size w wr) (fun i _ => r.length - (intOf i).toNat)
  case atStart => exact ⟨0, Nat.zero_le _, rfl, rfl, Below.refl _ _⟩
  case round =>
    obtain ⟨k, hk, rfl, HA, hB⟩ := hrel
    by_cases hlt : k < r.length
    · rcases (HR.out.below hB).at_ with e | ⟨b, off, rfl, hc⟩
      · rw [e] at hlt; simp at hlt
      obtain ⟨c0, c1, c2⟩ := hc k hlt
      have HD := hid (freeL_drop c d r k hlt)
      clear hc
      generalize gAt r k = x at *
      by_cases h1 : x.c = c
      · have h1' : (x.c == c) = true := by simp [h1]
        by_cases h2 : x.f ≤ d
        · by_cases h3 : d < x.t
          · have HX := hid (show hasB x c d = true by simp [hasB]; omega)
            clear h1
            go_wp2
            go_ret
            exact ⟨hB.alloc hB.size _, ret_bool (by rw [HA.out, HD.out, HX.out]; rfl)⟩
          · have h3' : x.t ≤ d := by omega
            have HX0 := HD
            have HX := hid (show hasB x c d = false by simp [hasB]; omega)
            clear h1 h3
            go_wp2
            go_roundw
            case rel => exact ⟨k + 1, by omega, by go_num, by unfold Hid; rw [HA.out, HD.out, HX.out]; rfl, hB.alloc hB.size _⟩
            case measure => simp [intOf]; omega
        · have h2' : d < x.f := by omega
          have HX0 := HD
          have HX := hid (show hasB x c d = false by simp [hasB]; omega)
          clear h1 h2
          go_wp2
          go_roundw
          case rel => exact ⟨k + 1, by omega, by go_num, by unfold Hid; rw [HA.out, HD.out, HX.out]; rfl, hB.alloc hB.size _⟩
          case measure => simp [intOf]; omega
      · have h1' : (x.c == c) = false := by simp [h1]
        have HX0 := HD
        have HX := hid (show hasB x c d = false by simp [hasB]; omega)
        clear h1
        go_wp2
        go_roundw
        case rel => exact ⟨k + 1, by omega, by go_num, by unfold Hid; rw [HA.out, HD.out, HX.out]; rfl, hB.alloc hB.size _⟩
        case measure => simp [intOf]; omega
    · go_wp2
      go_ret
      exact ⟨hB, ret_bool (by rw [HA.out, List.drop_of_length_le (by omega)]; rfl)⟩

set_option maxRecDepth 100000 in
set_option maxHeartbeats 2000000 in
theorem rfree_any (a : Option Addr) (r : List Rgt) (cap : Nat) (c d : Int) (w : World) (hr : RgtsAt w a r) : Calls Try.prog 83 #[.slice a r.length cap, .int .i64 c, .int .i64 d] w (SaysR w (freeL c d r)) := by
  have hlen := hr.len
  have HR := hid hr
  clear hr
  go_enter Try.func83, Try.ntmps83
  go_wp2
  go_loop [7] (fun i => ∃ k : Nat, k ≤ r.length ∧ i = .int .i64 k ∧ Hid (freeL c d r = freeL c d (r.drop k))) (fun i => r.length - (intOf i).toNat)
  case atStart => exact ⟨0, Nat.zero_le _, rfl, rfl⟩
  case round =>
    obtain ⟨k, hk, rfl, HA⟩ := hrel
    by_cases hlt : k < r.length
    · rcases HR.out.at_ with e | ⟨b, off, rfl, hc⟩
      · rw [e] at hlt; simp at hlt
      obtain ⟨c0, c1, c2⟩ := hc k hlt
      have HD := hid (freeL_drop c d r k hlt)
      clear hc
      generalize gAt r k = x at *
      by_cases h1 : x.c = c
      · have h1' : (x.c == c) = true := by simp [h1]
        by_cases h2 : x.f ≤ d
        · by_cases h3 : d < x.t
          · have HX := hid (show hasB x c d = true by simp [hasB]; omega)
            clear h1
            go_wp2
            go_ret
            exact ⟨rfl, ret_bool (by rw [HA.out, HD.out, HX.out]; rfl)⟩
          · have h3' : x.t ≤ d := by omega
            have HX0 := HD
            have HX := hid (show hasB x c d = false by simp [hasB]; omega)
            clear h1 h3
            go_wp2
            go_round
            case rel => exact ⟨k + 1, by omega, by go_num, by unfold Hid; rw [HA.out, HD.out, HX.out]; rfl⟩
            case measure => simp [intOf]; omega
        · have h2' : d < x.f := by omega
          have HX0 := HD
          have HX := hid (show hasB x c d = false by simp [hasB]; omega)
          clear h1 h2
          go_wp2
          go_round
          case rel => exact ⟨k + 1, by omega, by go_num, by unfold Hid; rw [HA.out, HD.out, HX.out]; rfl⟩
          case measure => simp [intOf]; omega
      · have h1' : (x.c == c) = false := by simp [h1]
        have HX0 := HD
        have HX := hid (show hasB x c d = false by simp [hasB]; omega)
        clear h1
        go_wp2
        go_round
        case rel => exact ⟨k + 1, by omega, by go_num, by unfold Hid; rw [HA.out, HD.out, HX.out]; rfl⟩
        case measure => simp [intOf]; omega
    · go_wp2
      go_ret
      exact ⟨rfl, ret_bool (by rw [HA.out, List.drop_of_length_le (by omega)]; rfl)⟩

set_option maxHeartbeats 1000000 in
theorem arePrices_any (a : Option Addr) (p : List Int) (cap : Nat) (w : World) (hp : Ints w a p) : Calls Try.prog 94 #[.slice a p.length cap] w (SaysR w (pricesB p)) := by
  have hlen := hp.len
  have HH := hid hp
  clear hp
  go_enter Try.func94, Try.ntmps94
  go_wp2
  go_loop [7] (fun i => ∃ (k : Nat), k ≤ p.length ∧ i = .int .i64 k ∧ Hid (allP p = allP (p.drop k))) (fun i => p.length - (intOf i).toNat)
  case atStart => exact ⟨0, Nat.zero_le _, rfl, rfl⟩
  case round =>
    obtain ⟨k, hk, rfl, HS⟩ := hrel
    by_cases hlt : k < p.length
    · rcases HH.out.at_ with e | ⟨b, off, rfl, hc⟩
      · rw [e] at hlt; simp at hlt
      have g := hc k hlt
      have HD := hid (allP_drop p k hlt)
      clear hc
      generalize p[k]?.getD 0 = x at *
      cases hx : inI x 0 10000 with
      | true =>
        rw [hx] at HD
        go_wp2_with fail
        refine (isWithin_any _ _ _ _).mono ?_
        rintro e w' ⟨rfl, rfl⟩
        rw [hx]
        go_wp2
        go_round
        case rel => exact ⟨k + 1, by omega, by go_num, by unfold Hid; rw [HS.out, HD.out]; rfl⟩
        case measure => simp [intOf]; omega
      | false =>
        rw [hx] at HD
        go_wp2_with fail
        refine (isWithin_any _ _ _ _).mono ?_
        rintro e w' ⟨rfl, rfl⟩
        rw [hx]
        go_wp2
        go_ret
        exact ⟨rfl, ret_bool (by unfold pricesB; rw [HS.out, HD.out]; rfl)⟩
    · have HT := hid (show allP p = true by rw [HS.out, List.drop_of_length_le (by omega)]; rfl)
      have HB := hid (show pricesB p = ((p.length : Int) == 9) by unfold pricesB; rw [HT.out, Bool.true_and, Bool.eq_iff_iff]; simp; omega)
      go_wp2
      go_ret
      exact ⟨rfl, ret_bool (by rw [HB.out])⟩
set_option maxHeartbeats 1000000 in
theorem priceOf_any (a : Option Addr) (p : List Int) (cap : Nat) (m : Int) (w : World) (hp : Ints w a p) (h9 : p.length = 9) (m0 : 0 ≤ m) (m9 : m ≤ 9) : Calls Try.prog 95 #[.slice a p.length cap, .int .i64 m] w (NumR w (priceL p m)) := by
  by_cases h0 : m = 0
  · have HS := hid (show priceL p m = 0 from if_pos h0)
    have h0' : (m == 0) = true := by simp [h0]
    clear h0 hp
    go_enter Try.func95, Try.ntmps95
    go_wp2
    go_ret
    exact ⟨rfl, ret_int (by rw [HS.out])⟩
  · have h0' : (m == 0) = false := by simp [h0]
    have HS := hid (show priceL p m = p[(m - 1).toNat]?.getD 0 from if_neg h0)
    rcases hp.at_ with e | ⟨b, off, rfl, hc⟩
    · rw [e] at h9; simp at h9
    obtain ⟨k, hk⟩ := Int.eq_ofNat_of_zero_le (show 0 ≤ m - 1 by omega)
    have hm : m = (k : Int) + 1 := by omega
    have hkl : k < p.length := by omega
    have g := hc k hkl
    have HS2 := hid (show priceL p m = p[k]?.getD 0 by rw [HS.out, hk]; rfl)
    have kl : (k : Int) < (p.length : Int) := by omega
    have kp : (p.length : Int) ≤ 9 := by omega
    subst hm
    clear hc hp h0 hk h9 HS
    generalize p[k]?.getD 0 = x at *
    go_enter Try.func95, Try.ntmps95
    go_wp2
    go_ret
    exact ⟨rfl, ret_int (by rw [HS2.out])⟩
set_option maxHeartbeats 1000000 in
theorem rprice_any (a : Option Addr) (p : List Int) (cap : Nat) (m : Int) (w : World) (hp : Ints w a p) (h9 : p.length = 9) (m0 : 0 ≤ m) (m9 : m ≤ 9) : Calls Try.prog 96 #[.slice a p.length cap, .int .i64 m] w (NumR w (priceL p m)) := by
  by_cases h0 : m = 0
  · have HS := hid (show priceL p m = 0 from if_pos h0)
    have h0' : (m == 0) = true := by simp [h0]
    clear h0 hp
    go_enter Try.func96, Try.ntmps96
    go_wp2
    go_ret
    exact ⟨rfl, ret_int (by rw [HS.out])⟩
  · have h0' : (m == 0) = false := by simp [h0]
    have HS := hid (show priceL p m = p[(m - 1).toNat]?.getD 0 from if_neg h0)
    rcases hp.at_ with e | ⟨b, off, rfl, hc⟩
    · rw [e] at h9; simp at h9
    obtain ⟨k, hk⟩ := Int.eq_ofNat_of_zero_le (show 0 ≤ m - 1 by omega)
    have hm : m = (k : Int) + 1 := by omega
    have hkl : k < p.length := by omega
    have g := hc k hkl
    have HS2 := hid (show priceL p m = p[k]?.getD 0 by rw [HS.out, hk]; rfl)
    have kl : (k : Int) < (p.length : Int) := by omega
    have kp : (p.length : Int) ≤ 9 := by omega
    subst hm
    clear hc hp h0 hk h9 HS
    generalize p[k]?.getD 0 = x at *
    go_enter Try.func96, Try.ntmps96
    go_wp2
    go_ret
    exact ⟨rfl, ret_int (by rw [HS2.out])⟩
end Go.Proofs.Ytcncnakpehnadaa
