/- Who is free, and prices. -/
import Derived.Test.YtkepjoociidkcaaOrRt
set_option linter.unusedVariables false
namespace Go.Proofs.Ytkepjoociidkcaa
open Go.RowKit

set_option maxRecDepth 100000 in
set_option maxHeartbeats 2000000 in
theorem isFree_any (a : Option Addr) (r : List Rgt) (cap : Nat) (c d : Int) (w : World) (hr : RgtsAt w a r) : Calls Try.prog 70 #[.slice a r.length cap, .int .i64 c, .int .i64 d] w (BoolR w (freeL c d r)) := by
  have hlen := hr.len
  have HR := hid hr
  clear hr
  go_enter Try.func70, Try.ntmps70
  go_wp2
  go_loopw [11] (fun i wr => ∃ k : Nat, k ≤ r.length ∧ i = .int .i64 k ∧ Hid (freeL c d r = freeL c d (r.drop k)) ∧ Below w.heap.size w wr) (fun i _ => r.length - (intOf i).toNat)
  case atStart => exact ⟨0, Nat.zero_le _, rfl, rfl, Below.refl _ _⟩
  case round =>
    obtain ⟨k, hk, rfl, HA, hB⟩ := hrel
    by_cases hlt : k < r.length
    · rcases (HR.out.below hB).at_ with e | ⟨b, off, rfl, hc⟩
      · rw [e] at hlt; simp at hlt
      obtain ⟨c0, c1, c2⟩ := hc k hlt
      have HD := hid (freeL_drop c d r k hlt)
      clear hc
      generalize gAt r k = x at *
      by_cases h1 : x.c = c
      · have h1' : (x.c == c) = true := by simp [h1]
        by_cases h2 : x.f ≤ d
        · by_cases h3 : d < x.t
          · have HX := hid (show hasB x c d = true by simp [hasB]; omega)
            clear h1
            go_wp2
            go_ret
            exact ⟨hB.alloc hB.size _, ret_bool (by rw [HA.out, HD.out, HX.out]; rfl)⟩
          · have h3' : x.t ≤ d := by omega
            have HX0 := HD
            have HX := hid (show hasB x c d = false by simp [hasB]; omega)
            clear h1 h3
            go_wp2
            go_roundw
            case rel => exact ⟨k + 1, by omega, by go_num, by unfold Hid; rw [HA.out, HD.out, HX.out]; rfl, hB.alloc hB.size _⟩
            case measure => simp [intOf]; omega
        · have h2' : d < x.f := by omega
          have HX0 := HD
          have HX := hid (show hasB x c d = false by simp [hasB]; omega)
          clear h1 h2
          go_wp2
          go_roundw
          case rel => exact ⟨k + 1, by omega, by go_num, by unfold Hid; rw [HA.out, HD.out, HX.out]; rfl, hB.alloc hB.size _⟩
          case measure => simp [intOf]; omega
      · have h1' : (x.c == c) = false := by simp [h1]
        have HX0 := HD
        have HX := hid (show hasB x c d = false by simp [hasB]; omega)
        clear h1
        go_wp2
        go_roundw
        case rel => exact ⟨k + 1, by omega, by go_num, by unfold Hid; rw [HA.out, HD.out, HX.out]; rfl, hB.alloc hB.size _⟩
        case measure => simp [intOf]; omega
    · go_wp2
      go_ret
      exact ⟨hB, ret_bool (by rw [HA.out, List.drop_of_length_le (by omega)]; rfl)⟩

set_option maxRecDepth 100000 in
set_option maxHeartbeats 2000000 in
theorem rfree_any (a : Option Addr) (r : List Rgt) (cap : Nat) (c d : Int) (w : World) (hr : RgtsAt w a r) : Calls Try.prog 71 #[.slice a r.length cap, .int .i64 c, .int .i64 d] w (SaysR w (freeL c d r)) := by
  have hlen := hr.len
  have HR := hid hr
  clear hr
  go_enter Try.func71, Try.ntmps71
  go_wp2
  go_loop [7] (fun i => ∃ k : Nat, k ≤ r.length ∧ i = .int .i64 k ∧ Hid (freeL c d r = freeL c d (r.drop k))) (fun i => r.length - (intOf i).toNat)
  case atStart => exact ⟨0, Nat.zero_le _, rfl, rfl⟩
  case round =>
    obtain ⟨k, hk, rfl, HA⟩ := hrel
    by_cases hlt : k < r.length
    · rcases HR.out.at_ with e | ⟨b, off, rfl, hc⟩
      · rw [e] at hlt; simp at hlt
      obtain ⟨c0, c1, c2⟩ := hc k hlt
      have HD := hid (freeL_drop c d r k hlt)
      clear hc
      generalize gAt r k = x at *
      by_cases h1 : x.c = c
      · have h1' : (x.c == c) = true := by simp [h1]
        by_cases h2 : x.f ≤ d
        · by_cases h3 : d < x.t
          · have HX := hid (show hasB x c d = true by simp [hasB]; omega)
            clear h1
            go_wp2
            go_ret
            exact ⟨rfl, ret_bool (by rw [HA.out, HD.out, HX.out]; rfl)⟩
          · have h3' : x.t ≤ d := by omega
            have HX0 := HD
            have HX := hid (show hasB x c d = false by simp [hasB]; omega)
            clear h1 h3
            go_wp2
            go_round
            case rel => exact ⟨k + 1, by omega, by go_num, by unfold Hid; rw [HA.out, HD.out, HX.out]; rfl⟩
            case measure => simp [intOf]; omega
        · have h2' : d < x.f := by omega
          have HX0 := HD
          have HX := hid (show hasB x c d = false by simp [hasB]; omega)
          clear h1 h2
          go_wp2
          go_round
          case rel => exact ⟨k + 1, by omega, by go_num, by unfold Hid; rw [HA.out, HD.out, HX.out]; rfl⟩
          case measure => simp [intOf]; omega
      · have h1' : (x.c == c) = false := by simp [h1]
        have HX0 := HD
        have HX := hid (show hasB x c d = false by simp [hasB]; omega)
        clear h1
        go_wp2
        go_round
        case rel => exact ⟨k + 1, by omega, by go_num, by unfold Hid; rw [HA.out, HD.out, HX.out]; rfl⟩
        case measure => simp [intOf]; omega
    · go_wp2
      go_ret
      exact ⟨rfl, ret_bool (by rw [HA.out, List.drop_of_length_le (by omega)]; rfl)⟩

end Go.Proofs.Ytkepjoociidkcaa
