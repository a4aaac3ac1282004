/- The theorem TopTimes: its walk. -/
import Derived.Test.YtkepjoociidkcaaTopTimesM
import Derived.Test.YtkepjoociidkcaaOrAdd
set_option linter.unusedVariables false
namespace Go.Proofs.Ytkepjoociidkcaa
open Go.RowKit

set_option maxRecDepth 100000 in
set_option maxHeartbeats 1000000 in
theorem in_any (a : Option Addr) (s : List Spn) (cap : Nat) (d : Int) (w : World) (ha : SpnsAt w a s) :
  Calls Try.prog 46 #[.slice a s.length cap, .int .i64 d] w (NumR w (inL s d)) := by
  have hlen := ha.len
  have HA := hid ha
  clear ha
  have HN := hid (show inL s d = inL (s.drop 0) d from rfl)
  go_enter Try.func46, Try.ntmps46
  go_wp2
  go_loopw [5] (fun i wr => ∃ k : Nat, k ≤ s.length ∧ i = .int .i64 k ∧ Hid (wr = w) ∧ Hid (inL s d = inL (s.drop k) d)) (fun i _ => s.length - (intOf i).toNat)
  case atStart => exact ⟨0, Nat.zero_le _, rfl, rfl, HN⟩
  case round =>
    clear HN
    obtain ⟨k, hk, rfl, hw, HN⟩ := hrel
    obtain rfl := hw.out
    by_cases hlt : k < s.length
    · rcases HA.out.at_ with e | ⟨b, off, rfl, hc⟩
      · rw [e] at hlt; simp at hlt
      obtain ⟨c0, c1, c2⟩ := hc k hlt
      have i0 : (0 : Int) ≤ (k : Int) := by omega
      have i1 : (k : Int) < (s.length : Int) := by omega
      have HD := hid (show inL s d = if (sAt s k).f ≤ d ∧ d < (sAt s k).t then (sAt s k).m else inL (s.drop (k + 1)) d by
        rw [HN.out, List.drop_eq_getElem_cons hlt]
        unfold sAt
        rw [List.getElem?_eq_getElem hlt]
        rfl)
      clear hc HN
      generalize sAt s k = x at *
      by_cases h1 : x.f ≤ d
      · by_cases h2 : d < x.t
        · have HX := hid ((HD.out).trans (if_pos ⟨h1, h2⟩))
          go_wp2
          go_ret
          exact ⟨rfl, by rw [HX.out]; rfl⟩
        · have HX := hid ((HD.out).trans (if_neg (fun h => h2 h.2)))
          go_wp2
          go_roundw
          case rel => exact ⟨k + 1, by omega, by go_num, by first | exact rfl | exact trivial, HX⟩
          case measure => simp [intOf]; omega
      · have HX := hid ((HD.out).trans (if_neg (fun h => h1 h.1)))
        have h2 : ¬ x.f ≤ d := h1
        go_wp2
        go_roundw
        case rel => exact ⟨k + 1, by omega, by go_num, by first | exact rfl | exact trivial, HX⟩
        case measure => simp [intOf]; omega
    · go_wp2
      go_ret
      exact ⟨rfl, by rw [HN.out, List.drop_of_length_le (by omega)]; rfl⟩

set_option maxRecDepth 100000 in
set_option maxHeartbeats 2000000 in
theorem topSame_any (a b : Option Addr) (s : List Spn) (ca cb : Nat) (w : World) (ha : SpnsAt w a s) (hb : SpnsAt w b s) :
  Calls Try.prog 47 #[.slice a s.length ca, .slice b s.length cb] w (DrawTrue w) := by
  have hlen := ha.len
  have HA := hid ha
  have HB := hid hb
  clear ha hb
  go_enter Try.func47, Try.ntmps47
  go_wp2
  go_loopw [5] (fun i wr => ∃ k : Nat, k ≤ s.length ∧ i = .int .i64 k ∧ Hid (∃ n, wr = w.drewN n)) (fun i _ => s.length - (intOf i).toNat)
  case atStart => exact ⟨0, Nat.zero_le _, rfl, ⟨0, rfl⟩⟩
  case round =>
    obtain ⟨k, hk, rfl, HW⟩ := hrel
    by_cases hlt : k < s.length
    · have HA2 := hid (show SpnsAt wr a s by obtain ⟨n, e⟩ := HW.out; rw [e]; exact HA.out.drew n)
      have HB2 := hid (show SpnsAt wr b s by obtain ⟨n, e⟩ := HW.out; rw [e]; exact HB.out.drew n)
      rcases HA2.out.at_ with e | ⟨p, o, rfl, hc⟩
      · rw [e] at hlt; simp at hlt
      rcases HB2.out.at_ with e | ⟨q, o2, rfl, hd⟩
      · rw [e] at hlt; simp at hlt
      obtain ⟨c0, c1, c2⟩ := hc k hlt
      obtain ⟨d0, d1, d2⟩ := hd k hlt
      have i0 : (0 : Int) ≤ (k : Int) := by omega
      have i1 : (k : Int) < (s.length : Int) := by omega
      clear hc hd
      generalize sAt s k = x at *
      go_wp2
      go_quiet (fail)
      go_wp2
      go_roundw
      case rel => exact ⟨k + 1, by omega, by go_num, by obtain ⟨m, e⟩ := HW.out; exact ⟨m + nq, by rw [e, World.drewN_drewN]⟩⟩
      case measure => simp [intOf]; omega
    · go_wp2
      go_ret
      obtain ⟨n, e⟩ := HW.out
      exact ⟨n, e, rfl⟩


end Go.Proofs.Ytkepjoociidkcaa
