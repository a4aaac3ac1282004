/- How often an adviser was wrong: package guess. -/
import Derived.Test.YtfjncmhbpfcdiaaGuB
set_option linter.unusedVariables false
namespace Go.Proofs.Ytfjncmhbpfcdiaa
open Go.RowKit

/-- The error of a game and an adviser. -/
def chkG (g : List Rnd) (x : Int) : Int := if gameE g = 0 then (if cinB x 0 ((advs g : Int) - 1) = true then 0 else 5) else gameE g
theorem chkG_ok {g : List Rnd} {x : Int} (h : chkG g x = 0) : GameOk g ∧ ∃ n : Nat, x = (n : Int) ∧ n < advs g := by
  unfold chkG at h
  by_cases h1 : gameE g = 0
  · rw [if_pos h1] at h
    by_cases h2 : cinB x 0 ((advs g : Int) - 1) = true
    · simp [cinB] at h2
      exact ⟨gameE_ok h1, x.toNat, by omega, by omega⟩
    · rw [if_neg h2] at h; cases h
  · rw [if_neg h1] at h; exact absurd h h1
theorem chkG_zero (g : List Rnd) : chkG g 0 = gameN g := by
  unfold chkG gameN
  by_cases h1 : gameE g = 0
  · rw [if_pos h1, if_pos h1]
    by_cases h2 : g.length = 0
    · obtain rfl := List.eq_nil_of_length_eq_zero h2
      rfl
    · have := (gameE_ok h1).adv 0 (by omega)
      rw [if_neg h2, if_pos (by simp [cinB]; omega)]
  · rw [if_neg h1, if_neg h1]
set_option maxHeartbeats 1000000 in
theorem gCheck_any (a : Option Addr) (g : List Rnd) (cap : Nat) (x : Int) (w : World) (h : GameAt w a g) : Calls Try.prog 44 #[.slice a g.length cap, .int .i64 x] w (DrwI w (chkG g x)) := by
  have hlen := h.len
  have HV := hid (gValidate_any a g cap w h)
  have HA := hid (fun n => advisers_any a g cap (w.drewN n) (h.drew n))
  have HE := hid (show chkG g x = if gameE g = 0 then (if cinB x 0 ((advs g : Int) - 1) = true then 0 else 5) else gameE g from rfl)
  by_cases h0 : gameE g = 0
  · have hl := (gameE_ok h0).len
    have had : advs g ≤ 8 := by
      by_cases h2 : g.length = 0
      · obtain rfl := List.eq_nil_of_length_eq_zero h2; simp [advs, rAt]
      · exact ((gameE_ok h0).adv 0 (by omega)).2.2
    rw [if_pos h0] at HE
    have HE := hid HE.out
    rw [h0] at HV
    generalize advs g = m at *
    cases hx : cinB x 0 ((m : Int) - 1) with
    | true =>
      rw [if_pos hx] at HE
      have HE := hid HE.out
      have HX := hid (fun W => gWithin_any x 0 ((m : Int) - 1) W)
      rw [hx] at HX
      clear h h0 hx
      go_enter Try.func44, Try.ntmps44
      go_wp2_with fail
      refine HV.out.mono ?_
      rintro e w1 ⟨n, rfl, rfl⟩
      go_wp2_with fail
      refine (HA.out n).mono ?_
      rintro e w2 ⟨rfl, rfl⟩
      go_wp2_with fail
      refine (HX.out _).mono ?_
      rintro e w2 ⟨rfl, rfl⟩
      go_wp2
      go_ret
      exact ⟨n, rfl, ret_int (by rw [HE.out])⟩
    | false =>
      rw [if_neg (by rw [hx]; simp)] at HE
      have HE := hid HE.out
      have HX := hid (fun W => gWithin_any x 0 ((m : Int) - 1) W)
      rw [hx] at HX
      clear h h0 hx
      go_enter Try.func44, Try.ntmps44
      go_wp2_with fail
      refine HV.out.mono ?_
      rintro e w1 ⟨n, rfl, rfl⟩
      go_wp2_with fail
      refine (HA.out n).mono ?_
      rintro e w2 ⟨rfl, rfl⟩
      go_wp2_with fail
      refine (HX.out _).mono ?_
      rintro e w2 ⟨rfl, rfl⟩
      go_wp2
      go_ret
      exact ⟨n, rfl, ret_int (by rw [HE.out])⟩
  · rw [if_neg h0] at HE
    have HE := hid HE.out
    have h1 : (gameE g != 0) = true := by simp [h0]
    clear h h0 HA
    generalize gameE g = v at *
    go_enter Try.func44, Try.ntmps44
    go_wp2_with fail
    refine HV.out.mono ?_
    rintro e w1 ⟨n, rfl, rfl⟩
    go_wp2
    go_ret
    exact ⟨n, rfl, ret_int (by rw [HE.out])⟩
set_option maxRecDepth 100000 in
set_option maxHeartbeats 1000000 in
theorem gWrong_any (a : Option Addr) (g : List Rnd) (cap x : Nat) (w : World) (h : GameAt w a g) (hg : GameOk g) (hx : x < advs g) : Calls Try.prog 45 #[.slice a g.length cap, .int .i64 (x : Int)] w (DrwI w (wrongN g x g.length)) := by
  have hlen := hg.len
  have hx8 : ∀ i, i < g.length → x < (rAt g i).1.length := fun i hi => by rw [(hg.adv i hi).1]; exact hx
  have HX8 := hid hx8
  have HH := hid h
  have HW0 := hid (fun k => wrongN_le g x k)
  clear h hg hx hx8
  go_enter Try.func45, Try.ntmps45
  go_wp2
  go_loopw [5, 9] (fun t i wr => ∃ (k : Nat), k ≤ g.length ∧ i = .int .i64 k ∧ t = .int .i64 (wrongN g x k) ∧ Hid (∃ n, wr = w.drewN n)) (fun _ i _ => g.length - (intOf i).toNat)
  case atStart => exact ⟨0, Nat.zero_le _, rfl, rfl, ⟨0, rfl⟩⟩
  case round =>
    obtain ⟨k, hk, rfl, rfl, HW⟩ := hrel
    have hwk := HW0.out k
    by_cases hlt : k < g.length
    · have HG : Hid (GameAt wr a g) := by obtain ⟨n, e⟩ := HW.out; rw [e]; exact HH.out.drew n
      rcases HG.out.at_ with e | ⟨b, off, rfl, hc⟩
      · rw [e] at hlt; simp at hlt
      obtain ⟨A, c, c0, c1, s0⟩ := hc k hlt
      have hxr := HX8.out k hlt
      have HS := hid (show wrongN g x (k + 1) = wrongN g x k + if bad (rAt g k) x = true then 1 else 0 from rfl)
      have HB := hid (bad_at (rAt g k) x hxr)
      have hrl := s0.len
      rcases s0.at_ with e | ⟨b2, off2, rfl, hm⟩
      · rw [e] at hxr; simp at hxr
      have c2 := hm x hxr
      have i0 : (0 : Int) ≤ (k : Int) := by omega
      have i1 : (k : Int) < (g.length : Int) := by omega
      have j0 : (0 : Int) ≤ (x : Int) := by omega
      have j1 : (x : Int) < ((rAt g k).1.length : Int) := by omega
      generalize hbad : bad (rAt g k) x = bd at HS HB
      generalize bAt (rAt g k).1 x = p at *
      generalize (rAt g k).2 = q at *
      generalize (rAt g k).1 = r at *
      generalize hwn : wrongN g x k = v at *
      clear hc hm hbad hwn s0
      cases hpq : (p == q) with
      | false =>
        have HN := hid (show wrongN g x (k + 1) = v + 1 by rw [HS.out, HB.out, bne, hpq]; rfl)
        clear HS HB
        go_wp2_with fail
        go_quiet (fail)
        go_wp2
        go_roundw
        case rel => exact ⟨k + 1, by omega, by go_num, by rw [HN.out]; go_num, by obtain ⟨n, e⟩ := HW.out; exact ⟨n + nq, by rw [e, World.drewN_drewN]⟩⟩
        case measure => simp [intOf]; omega
      | true =>
        have HN := hid (show wrongN g x (k + 1) = v by rw [HS.out, HB.out, bne, hpq]; rfl)
        clear HS HB
        go_wp2_with fail
        go_quiet (fail)
        go_wp2
        go_roundw
        case rel => exact ⟨k + 1, by omega, by go_num, by rw [HN.out], by obtain ⟨n, e⟩ := HW.out; exact ⟨n + nq, by rw [e, World.drewN_drewN]⟩⟩
        case measure => simp [intOf]; omega
    · obtain rfl : k = g.length := by omega
      go_wp2
      go_ret
      obtain ⟨n, e⟩ := HW.out
      exact ⟨n, e, rfl⟩
end Go.Proofs.Ytfjncmhbpfcdiaa
