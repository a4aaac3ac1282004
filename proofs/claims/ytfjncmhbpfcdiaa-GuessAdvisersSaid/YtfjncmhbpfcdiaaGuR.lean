/- The document's own errors of a game, and how often an adviser was wrong. -/
import Derived.Test.YtfjncmhbpfcdiaaGuC
import Derived.IntWalk
set_option linter.unusedVariables false
namespace Go.Proofs.Ytfjncmhbpfcdiaa
open Go.RowKit

set_option maxRecDepth 100000 in
set_option maxHeartbeats 1000000 in
theorem grValidate_any (a : Option Addr) (g : List Rnd) (cap : Nat) (w : World) (h : GameAt w a g) : Calls Try.prog 23 #[.slice a g.length cap] w (NumG w (gameE g)) := by
  have hlen := h.len
  by_cases h0 : 24 < g.length
  · have HS := hid (show gameE g = 4 by unfold gameE; rw [if_pos h0])
    have h0' : (24 : Int) < (g.length : Int) := by omega
    clear h
    go_enter Try.func23, Try.ntmps23
    go_wp2
    go_ret
    exact ⟨rfl, ret_int (by rw [HS.out])⟩
  · have HS := hid (show gameE g = if roundsOk (advs g) g = true then 0 else 1 by unfold gameE; rw [if_neg h0])
    have h0' : (g.length : Int) ≤ 24 := by omega
    have HH := hid h
    clear h0 h
    go_enter Try.func23, Try.ntmps23
    go_wp2
    go_loop [3] (fun i => ∃ (k : Nat), k ≤ g.length ∧ i = .int .i64 k ∧ Hid (roundsOk (advs g) g = roundsOk (advs g) (g.drop k))) (fun i => g.length - (intOf i).toNat)
    case atStart => exact ⟨0, Nat.zero_le _, rfl, rfl⟩
    case round =>
      obtain ⟨k, hk, rfl, HT⟩ := hrel
      by_cases hlt : k < g.length
      · rcases HH.out.at_ with e | ⟨b, off, rfl, hc⟩
        · rw [e] at hlt; simp at hlt
        obtain ⟨A, c, c0, _, s0⟩ := hc k hlt
        obtain ⟨A1, c1, c2, _, s1⟩ := hc 0 (by omega)
        rw [Nat.zero_mul, Nat.add_zero] at c2
        have HD := hid (roundsOk_drop (advs g) g k hlt)
        have HR := hid (show rndOk (advs g) (rAt g k) = decide ((rAt g k).1.length = advs g ∧ 1 ≤ (rAt g k).1.length ∧ (rAt g k).1.length ≤ 8) from rfl)
        have hrl := s0.len
        have hrl1 := s1.len
        have E0 := hid (show advs g = (rAt g 0).1.length from rfl)
        rw [show advs g = (rAt g 0).1.length from rfl] at HD HR HT HS
        have g0 : 0 < g.length := by omega
        have g0' : (0 : Int) < (g.length : Int) := by omega
        generalize (rAt g k).1 = r at *
        generalize (rAt g 0).1 = r0 at *
        clear hc s0 s1
        by_cases hw : r.length < 1
        · have HN := hid (show gameE g = 1 by rw [HS.out, HT.out, HD.out, HR.out]; simp; intro _ h; omega)
          have hw' : (r.length : Int) < 1 := by omega
          clear hw HD HR HT
          go_wp2
          go_ret
          exact ⟨rfl, ret_int (by rw [HN.out])⟩
        · have hw' : (1 : Int) ≤ (r.length : Int) := by omega
          by_cases hv : 8 < r.length
          · have HN := hid (show gameE g = 1 by rw [HS.out, HT.out, HD.out, HR.out]; simp; intro _ h; omega)
            have hv' : (8 : Int) < (r.length : Int) := by omega
            clear hw hv HD HR HT
            go_wp2
            go_ret
            exact ⟨rfl, ret_int (by rw [HN.out])⟩
          · have hv' : (r.length : Int) ≤ 8 := by omega
            by_cases hm : r.length = r0.length
            · have HN := hid (show roundsOk r0.length g = roundsOk r0.length (g.drop (k + 1)) by rw [HT.out, HD.out, HR.out]; simp [hm]; omega)
              have hm1 : (r.length : Int) ≤ (r0.length : Int) := by omega
              have hm2 : (r0.length : Int) ≤ (r.length : Int) := by omega
              have hm' : ((r.length : Int) != (r0.length : Int)) = false := by simp; omega
              clear hw hv hm HD HR HT
              go_wp2
              go_round
              case rel => exact ⟨k + 1, by omega, by go_num, by rw [E0.out]; exact HN⟩
              case measure => simp [intOf]; omega
            · have HN := hid (show gameE g = 1 by rw [HS.out, HT.out, HD.out, HR.out]; simp [hm])
              have hm' : ((r.length : Int) != (r0.length : Int)) = true := by simp; omega
              clear hw hv hm HD HR HT
              go_wp2
              go_ret
              exact ⟨rfl, ret_int (by rw [HN.out])⟩
      · have HN := hid (show gameE g = 0 by rw [HS.out, HT.out, List.drop_of_length_le (by omega)]; rfl)
        go_wp2
        go_ret
        exact ⟨rfl, ret_int (by rw [HN.out])⟩
set_option maxHeartbeats 1000000 in
theorem grRounds_any (a : Option Addr) (g : List Rnd) (cap : Nat) (w : World) (h : GameAt w a g) : Calls Try.prog 46 #[.slice a g.length cap] w (NumG w (gameN g)) := by
  have hlen := h.len
  have HV := hid (grValidate_any a g cap w h)
  have HE := hid (show gameN g = if gameE g = 0 then (if g.length = 0 then 5 else 0) else gameE g from rfl)
  clear h
  by_cases h0 : gameE g = 0
  · rw [if_pos h0] at HE
    have HE := hid HE.out
    rw [h0] at HV
    clear h0
    by_cases h2 : g.length = 0
    · rw [if_pos h2] at HE
      have HE := hid HE.out
      have h2' : (g.length : Int) = 0 := by omega
      clear h2
      go_enter Try.func46, Try.ntmps46
      go_wp2_with fail
      refine HV.out.mono ?_
      rintro e w1 ⟨rfl, rfl⟩
      go_wp2
      go_ret
      exact ⟨rfl, ret_int (by rw [HE.out])⟩
    · rw [if_neg h2] at HE
      have HE := hid HE.out
      have h2' : ((g.length : Int) == 0) = false := by rw [beq_eq_false_iff_ne]; omega
      clear h2
      go_enter Try.func46, Try.ntmps46
      go_wp2_with fail
      refine HV.out.mono ?_
      rintro e w1 ⟨rfl, rfl⟩
      go_wp2
      go_ret
      exact ⟨rfl, ret_int (by rw [HE.out])⟩
  · rw [if_neg h0] at HE
    have HE := hid HE.out
    have h1 : (gameE g != 0) = true := by simp [h0]
    clear h0
    generalize gameE g = v at *
    go_enter Try.func46, Try.ntmps46
    go_wp2_with fail
    refine HV.out.mono ?_
    rintro e w1 ⟨rfl, rfl⟩
    go_wp2
    go_ret
    exact ⟨rfl, ret_int (by rw [HE.out])⟩
set_option maxRecDepth 100000 in
set_option maxHeartbeats 1000000 in
theorem grWrong_any (a : Option Addr) (g : List Rnd) (cap x : Nat) (w : World) (h : GameAt w a g) (hlen : g.length ≤ 24) (hx8 : ∀ i, i < g.length → x < (rAt g i).1.length) : Calls Try.prog 47 #[.slice a g.length cap, .int .i64 (x : Int)] w (DrwI w (wrongN g x g.length)) := by
  have HX8 := hid hx8
  have HH := hid h
  have HW0 := hid (fun k => wrongN_le g x k)
  clear h hx8
  go_enter Try.func47, Try.ntmps47
  go_wp2
  go_loopw [5, 6] (fun t i wr => ∃ (k : Nat), k ≤ g.length ∧ i = .int .i64 k ∧ t = .int .i64 (wrongN g x k) ∧ Hid (∃ n, wr = w.drewN n)) (fun _ i _ => g.length - (intOf i).toNat)
  case atStart => exact ⟨0, Nat.zero_le _, rfl, rfl, ⟨0, rfl⟩⟩
  case round =>
    obtain ⟨k, hk, rfl, rfl, HW⟩ := hrel
    have hwk := HW0.out k
    by_cases hlt : k < g.length
    · have HG : Hid (GameAt wr a g) := by obtain ⟨n, e⟩ := HW.out; rw [e]; exact HH.out.drew n
      rcases HG.out.at_ with e | ⟨b, off, rfl, hc⟩
      · rw [e] at hlt; simp at hlt
      obtain ⟨A, c, c0, c1, s0⟩ := hc k hlt
      have hxr := HX8.out k hlt
      have HS := hid (show wrongN g x (k + 1) = wrongN g x k + if bad (rAt g k) x = true then 1 else 0 from rfl)
      have HB := hid (bad_at (rAt g k) x hxr)
      have hrl := s0.len
      rcases s0.at_ with e | ⟨b2, off2, rfl, hm⟩
      · rw [e] at hxr; simp at hxr
      have c2 := hm x hxr
      have i0 : (0 : Int) ≤ (k : Int) := by omega
      have i1 : (k : Int) < (g.length : Int) := by omega
      have j0 : (0 : Int) ≤ (x : Int) := by omega
      have j1 : (x : Int) < ((rAt g k).1.length : Int) := by omega
      generalize hbad : bad (rAt g k) x = bd at HS HB
      generalize bAt (rAt g k).1 x = p at *
      generalize (rAt g k).2 = q at *
      generalize (rAt g k).1 = r at *
      generalize hwn : wrongN g x k = v at *
      clear hc hm hbad hwn s0
      cases hpq : (p == q) with
      | false =>
        have HN := hid (show wrongN g x (k + 1) = v + 1 by rw [HS.out, HB.out, bne, hpq]; rfl)
        clear HS HB
        go_wp2_with fail
        go_quiet (fail)
        go_wp2
        go_roundw
        case rel => exact ⟨k + 1, by omega, by go_num, by rw [HN.out]; go_num, by obtain ⟨n, e⟩ := HW.out; exact ⟨n + nq, by rw [e, World.drewN_drewN]⟩⟩
        case measure => simp [intOf]; omega
      | true =>
        have HN := hid (show wrongN g x (k + 1) = v by rw [HS.out, HB.out, bne, hpq]; rfl)
        clear HS HB
        go_wp2_with fail
        go_quiet (fail)
        go_wp2
        go_roundw
        case rel => exact ⟨k + 1, by omega, by go_num, by rw [HN.out], by obtain ⟨n, e⟩ := HW.out; exact ⟨n + nq, by rw [e, World.drewN_drewN]⟩⟩
        case measure => simp [intOf]; omega
    · obtain rfl : k = g.length := by omega
      go_wp2
      go_ret
      obtain ⟨n, e⟩ := HW.out
      exact ⟨n, e, rfl⟩
theorem pow_cast (k : Nat) : ((2 ^ k : Nat) : Int) = (2 : Int) ^ k := by rw [Int.natCast_pow]; rfl
theorem pow24 (n : Nat) (h : n ≤ 24) : (0 : Int) ≤ ((2 ^ (24 - n) : Nat) : Int) ∧ ((2 ^ (24 - n) : Nat) : Int) ≤ 16777216 := by
  have : 2 ^ (24 - n) ≤ 2 ^ 24 := Nat.pow_le_pow_right (by omega) (by omega)
  exact ⟨Int.natCast_nonneg _, Int.ofNat_le.2 this⟩
set_option maxHeartbeats 1000000 in
theorem grWeight_any (n : Nat) (h : n ≤ 24) (w : World) : Calls Try.prog 50 #[.int .i64 (n : Int)] w (NumG w ((2 ^ (24 - n) : Nat) : Int)) := by
  have hp := pow24 n h
  have h1 : (n : Int) ≤ 24 := by omega
  have HT := hid (show ((24 : Int) - (n : Int)).toNat = 24 - n by omega)
  go_enter Try.func50, Try.ntmps50
  go_wp2
  go_ret
  exact ⟨rfl, ret_int (by rw [pow_cast] at hp ⊢; exact IntWalk.wrap64_in _ ⟨by omega, by omega⟩)⟩
end Go.Proofs.Ytfjncmhbpfcdiaa
