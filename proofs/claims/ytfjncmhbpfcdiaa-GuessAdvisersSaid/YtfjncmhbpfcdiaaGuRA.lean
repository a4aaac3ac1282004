/- What the document's office says; its Wrong, Say, Said and Errors. -/
import Derived.Test.YtfjncmhbpfcdiaaGuR
import Derived.Test.YtfjncmhbpfcdiaaGuF
import Derived.Test.YtfjncmhbpfcdiaaGuD
set_option linter.unusedVariables false
namespace Go.Proofs.Ytfjncmhbpfcdiaa
open Go.RowKit

def DrwS (w : World) (v : Bool) (en : Ending) (w' : World) : Prop := ∃ n, w' = w.drewN n ∧ en = .returned (.bool v)
set_option maxRecDepth 100000 in
set_option maxHeartbeats 1000000 in
theorem grSays_any (a A : Option Addr) (g : List Rnd) (l : List Bool) (cap lc : Nat) (w : World) (h : GameAt w a g) (hm : Marks w A l) (hlen : g.length ≤ 24) (h8 : l.length ≤ 8) (hr : ∀ i, i < g.length → l.length ≤ (rAt g i).1.length) :
  Calls Try.prog 53 #[.slice a g.length cap, .slice A l.length lc] w (DrwS w (sayN 16777216 g l g.length)) := by
  have HH := hid h
  have HM := hid hm
  have HR := hid (show sayN 16777216 g l g.length = decide (0 < surp (fun a => wtN 16777216 g a g.length) l l.length) from rfl)
  have HW := hid (fun (x : Nat) (hx : x < l.length) m => grWrong_any a g cap x (w.drewN m) (h.drew m) hlen (fun i hi => Nat.lt_of_lt_of_le hx (hr i hi)))
  have HWt := hid (fun x W => grWeight_any (wrongN g x g.length) (Nat.le_trans (wrongN_le g x g.length) hlen) W)
  have HP := hid (fun x => pow24 (wrongN g x g.length) (Nat.le_trans (wrongN_le g x g.length) hlen))
  have HF := hid (fun x => wtN_full g x g.length hlen)
  have HS := hid (fun k => surp_bd (fun a => wtN 16777216 g a g.length) l 16777216 (fun i => wtN_le 16777216 g i g.length) k)
  have HD := hid (show ∀ k, surp (fun a => wtN 16777216 g a g.length) l (k + 1) = surp (fun a => wtN 16777216 g a g.length) l k + if bAt l k = true then (wtN 16777216 g k g.length : Int) else -(wtN 16777216 g k g.length : Int) from fun k => rfl)
  clear h hm hr
  go_enter Try.func53, Try.ntmps53
  go_wp2
  go_loopw [5, 6] (fun t i wr => ∃ (k : Nat), k ≤ l.length ∧ i = .int .i64 k ∧ t = .int .i64 (surp (fun a => wtN 16777216 g a g.length) l k) ∧ Hid (∃ n, wr = w.drewN n)) (fun _ i _ => l.length - (intOf i).toNat)
  case atStart => exact ⟨0, Nat.zero_le _, rfl, rfl, ⟨0, rfl⟩⟩
  case round =>
    obtain ⟨k, hk, rfl, rfl, HWr⟩ := hrel
    have hsk := HS.out k
    by_cases hlt : k < l.length
    · obtain ⟨n9, hn9⟩ := HWr.out
      have HMr : Hid (Marks wr A l) := by rw [hn9]; exact HM.out.below (below_drewN (Below.refl _ _) n9)
      have HW2 := hid (show Calls Try.prog 47 #[.slice a g.length cap, .int .i64 (k : Int)] wr (DrwI wr (wrongN g k g.length)) by rw [hn9]; exact HW.out k hlt n9)
      have HWt2 := hid (fun W => HWt.out k W)
      have hp2 := HP.out k
      have HF2 := hid (HF.out k)
      rw [← HF2.out] at HWt2 hp2
      clear hn9 n9
      rcases HMr.out.at_ with e | ⟨b, off, rfl, hc⟩
      · rw [e] at hlt; simp at hlt
      have c0 := hc k hlt
      have HN := hid (HD.out k)
      clear hc
      generalize surp (fun a => wtN 16777216 g a g.length) l k = s at *
      generalize wtN 16777216 g k g.length = v at *
      generalize wrongN g k g.length = u at *
      cases hb : bAt l k with
      | true =>
        rw [hb] at c0 HN
        have HN2 := hid ((HN.out).trans (show _ = s + (v : Int) by simp))
        clear hb HN
        go_wp2_with fail
        refine HW2.out.mono ?_
        rintro e w4 ⟨m4, rfl, rfl⟩
        go_wp2_with fail
        refine (HWt2.out _).mono ?_
        rintro e w5 ⟨rfl, rfl⟩
        go_wp2
        go_roundw
        case rel => exact ⟨k + 1, by omega, by go_num, by rw [HN2.out], by obtain ⟨n, e⟩ := HWr.out; exact ⟨n + m4, by rw [e, World.drewN_drewN]⟩⟩
        case measure => simp [intOf]; omega
      | false =>
        rw [hb] at c0 HN
        have HN2 := hid ((HN.out).trans (show _ = s - (v : Int) by simp; omega))
        clear hb HN
        go_wp2_with fail
        refine HW2.out.mono ?_
        rintro e w4 ⟨m4, rfl, rfl⟩
        go_wp2_with fail
        refine (HWt2.out _).mono ?_
        rintro e w5 ⟨rfl, rfl⟩
        go_wp2
        go_roundw
        case rel => exact ⟨k + 1, by omega, by go_num, by rw [HN2.out], by obtain ⟨n, e⟩ := HWr.out; exact ⟨n + m4, by rw [e, World.drewN_drewN]⟩⟩
        case measure => simp [intOf]; omega
    · obtain rfl : k = l.length := by omega
      go_wp2
      go_ret
      obtain ⟨n, e⟩ := HWr.out
      exact ⟨n, e, by rw [HR.out]; rfl⟩

set_option maxHeartbeats 1000000 in
theorem grWrongP_any (a : Option Addr) (g : List Rnd) (cap : Nat) (x : Int) (w : World) (h : GameAt w a g) : Calls Try.prog 17 #[.slice a g.length cap, .int .i64 x] w (DrwP w (wrongV g x)) := by
  have hlen := h.len
  have HC := hid (grRounds_any a g cap w h)
  have HE := hid (show wrongV g x = if chkG g x = 0 then ((wrongN g x.toNat g.length : Int), 0) else (0, chkG g x) from rfl)
  have HK := hid (show chkG g x = if gameE g = 0 then (if cinB x 0 ((advs g : Int) - 1) = true then 0 else 5) else gameE g from rfl)
  have HGN := hid (show gameN g = if gameE g = 0 then (if g.length = 0 then 5 else 0) else gameE g from rfl)
  by_cases h0 : gameN g = 0
  · obtain ⟨hg0, hpos⟩ := gameN_ok h0
    have hg := gameE_ok hg0
    have HK := hid ((HK.out).trans (if_pos hg0))
    rw [h0] at HC
    have had := hg.adv 0 hpos
    rcases h.at_ with e | ⟨b, off, rfl, hc⟩
    · rw [e] at hpos; simp at hpos
    obtain ⟨A, c, c0, _, s0⟩ := hc 0 hpos
    rw [Nat.zero_mul, Nat.add_zero, had.1] at c0
    have ha1 : 1 ≤ advs g := had.2.1
    have ha8 : advs g ≤ 8 := had.2.2
    have g0' : (0 : Int) < (g.length : Int) := by omega
    have HWr := hid (fun (n : Nat) (hn : n < advs g) => grWrong_any (some ⟨b, off, none⟩) g cap n w h hg.len (fun i hi => by rw [(hg.adv i hi).1]; exact hn))
    have hl24 := hg.len
    clear hc s0 h h0 hg hg0 had HGN
    by_cases hx0 : x < 0
    · have HK := hid ((HK.out).trans (if_neg (by simp [cinB]; omega)))
      have HE := hid ((HE.out).trans (if_neg (by rw [HK.out]; decide)))
      rw [HK.out] at HE
      clear HK
      generalize advs g = d at *
      go_enter Try.func17, Try.ntmps17
      go_wp2_with fail
      refine HC.out.mono ?_
      rintro e w1 ⟨rfl, rfl⟩
      go_wp2
      go_ret2
      exact ⟨0, rfl, by rw [HE.out]; rfl⟩
    · obtain ⟨n, rfl⟩ := Int.eq_ofNat_of_zero_le (show 0 ≤ x by omega)
      by_cases hxd : n < advs g
      · have HK := hid ((HK.out).trans (if_pos (by simp [cinB]; omega)))
        have HE := hid ((HE.out).trans (if_pos HK.out))
        have HWn := hid (HWr.out n hxd)
        have hxd' : (n : Int) < (advs g : Int) := by omega
        have hw := wrongN_le g n g.length
        clear HK hx0 HWr
        generalize advs g = d at *
        go_enter Try.func17, Try.ntmps17
        go_wp2_with fail
        refine HC.out.mono ?_
        rintro e w1 ⟨rfl, rfl⟩
        go_wp2_with fail
        refine HWn.out.mono ?_
        rintro e w2 ⟨m, rfl, rfl⟩
        go_wp2
        go_ret2
        exact ⟨m, rfl, by rw [HE.out]; rfl⟩
      · have HK := hid ((HK.out).trans (if_neg (by simp [cinB]; omega)))
        have HE := hid ((HE.out).trans (if_neg (by rw [HK.out]; decide)))
        rw [HK.out] at HE
        have hxd' : (advs g : Int) ≤ (n : Int) := by omega
        clear HK hx0 HWr
        generalize advs g = d at *
        go_enter Try.func17, Try.ntmps17
        go_wp2_with fail
        refine HC.out.mono ?_
        rintro e w1 ⟨rfl, rfl⟩
        go_wp2
        go_ret2
        exact ⟨0, rfl, by rw [HE.out]; rfl⟩
  · have hce : chkG g x = gameN g := by
      rw [HK.out, HGN.out]
      by_cases h1 : gameE g = 0
      · rw [if_pos h1, if_pos h1]
        by_cases h2 : g.length = 0
        · obtain rfl := List.eq_nil_of_length_eq_zero h2
          rw [if_pos h2, if_neg (by simp [cinB, advs, rAt]; omega)]
        · exact absurd (by rw [HGN.out, if_pos h1, if_neg h2]) h0
      · rw [if_neg h1, if_neg h1]
    rw [hce] at HE
    have HE := hid ((HE.out).trans (if_neg h0))
    have h1 : (gameN g != 0) = true := by simp [h0]
    clear h h0 hce HK HGN
    generalize gameN g = v at *
    go_enter Try.func17, Try.ntmps17
    go_wp2_with fail
    refine HC.out.mono ?_
    rintro e w1 ⟨rfl, rfl⟩
    go_wp2
    go_ret2
    exact ⟨0, rfl, by rw [HE.out]; rfl⟩

set_option maxRecDepth 100000 in
set_option maxHeartbeats 2000000 in
theorem grSay_any (a A : Option Addr) (g : List Rnd) (l : List Bool) (cap lc : Nat) (w : World) (h : GameAt w a g) (hm : Marks w A l) : Calls Try.prog 26 #[.slice a g.length cap, .slice A l.length lc] w (BelS w (sayV g l)) := by
  have hlen := h.len
  have hll := hm.len
  have HV := hid (grValidate_any a g cap w h)
  have HS := hid (show sayV g l = if sayE g l = 0 then (sayN 16777216 g l g.length, 0) else (false, sayE g l) from rfl)
  have HE := hid (show sayE g l = if gameE g = 0 then (if 1 ≤ l.length ∧ l.length ≤ 8 ∧ (0 < g.length → l.length = advs g) then 0 else 1) else gameE g from rfl)
  by_cases h0 : gameE g = 0
  · have HE := hid ((HE.out).trans (if_pos h0))
    have hg := gameE_ok h0
    rw [h0] at HV
    have hl24 := hg.len
    by_cases h1 : 1 ≤ l.length
    · have h1' : (1 : Int) ≤ (l.length : Int) := by omega
      by_cases h8 : l.length ≤ 8
      · have h8' : (l.length : Int) ≤ 8 := by omega
        have HH := hid h
        have HM := hid hm
        by_cases hz : 0 < g.length
        · have hz' : (0 : Int) < (g.length : Int) := by omega
          rcases h.at_ with e | ⟨b, off, rfl, hc⟩
          · rw [e] at hz; simp at hz
          obtain ⟨A1, c1, c0, _, s0⟩ := hc 0 hz
          rw [Nat.zero_mul, Nat.add_zero, (hg.adv 0 hz).1] at c0
          have ha8 := (hg.adv 0 hz).2
          by_cases hd : l.length = advs g
          · have hd' : ((l.length : Int) != (advs g : Int)) = false := by simp; omega
            have HE := hid ((HE.out).trans (if_pos ⟨h1, h8, fun _ => hd⟩))
            have HS := hid ((HS.out).trans (if_pos HE.out))
            have hd1 : (l.length : Int) ≤ (advs g : Int) := by omega
            have hd2 : (advs g : Int) ≤ (l.length : Int) := by omega
            have HSy := hid (grSays_any (some ⟨b, off, none⟩) A g l cap lc w h hm hl24 h8 (fun i hi => by rw [(hg.adv i hi).1]; omega))
            clear h h0 hm hd h8 h1 hc s0 hg
            generalize advs g = d at *
            go_enter Try.func26, Try.ntmps26
            go_wp2_with fail
            refine HV.out.mono ?_
            rintro e w1 ⟨rfl, rfl⟩
            go_wp2_with fail
            refine HSy.out.mono ?_
            rintro e w2 ⟨m, rfl, rfl⟩
            go_wp2
            go_ret2
            exact ⟨below_drewN (Below.refl _ _) m, by rw [HS.out]; rfl⟩
          · have hd' : ((l.length : Int) != (advs g : Int)) = true := by simp; omega
            have HE := hid ((HE.out).trans (if_neg fun hh => hd (hh.2.2 hz)))
            have HS := hid ((HS.out).trans (if_neg (by rw [HE.out]; decide)))
            rw [HE.out] at HS
            clear h h0 hm hd h8 h1 hc s0 hg
            generalize advs g = d at *
            go_enter Try.func26, Try.ntmps26
            go_wp2_with fail
            refine HV.out.mono ?_
            rintro e w1 ⟨rfl, rfl⟩
            go_wp2
            go_ret2
            exact ⟨Below.refl _ _, by rw [HS.out]; rfl⟩
        · have hz' : (g.length : Int) ≤ 0 := by omega
          have HE := hid ((HE.out).trans (if_pos ⟨h1, h8, fun hh => absurd hh hz⟩))
          have HS := hid ((HS.out).trans (if_pos HE.out))
          have HSy := hid (grSays_any a A g l cap lc w h hm hl24 h8 (fun i hi => absurd (Nat.lt_of_le_of_lt (Nat.zero_le i) hi) hz))
          clear h h0 hm hz h8 h1 hg
          go_enter Try.func26, Try.ntmps26
          go_wp2_with fail
          refine HV.out.mono ?_
          rintro e w1 ⟨rfl, rfl⟩
          go_wp2_with fail
          refine HSy.out.mono ?_
          rintro e w2 ⟨m, rfl, rfl⟩
          go_wp2
          go_ret2
          exact ⟨below_drewN (Below.refl _ _) m, by rw [HS.out]; rfl⟩
      · have h8' : (8 : Int) < (l.length : Int) := by omega
        have HE := hid ((HE.out).trans (if_neg fun hh => h8 hh.2.1))
        have HS := hid ((HS.out).trans (if_neg (by rw [HE.out]; decide)))
        rw [HE.out] at HS
        clear h h0 hm h8 h1 hg
        go_enter Try.func26, Try.ntmps26
        go_wp2_with fail
        refine HV.out.mono ?_
        rintro e w1 ⟨rfl, rfl⟩
        go_wp2
        go_ret2
        exact ⟨Below.refl _ _, by rw [HS.out]; rfl⟩
    · have h1' : (l.length : Int) < 1 := by omega
      have HE := hid ((HE.out).trans (if_neg fun hh => h1 hh.1))
      have HS := hid ((HS.out).trans (if_neg (by rw [HE.out]; decide)))
      rw [HE.out] at HS
      clear h h0 hm h1 hg
      go_enter Try.func26, Try.ntmps26
      go_wp2_with fail
      refine HV.out.mono ?_
      rintro e w1 ⟨rfl, rfl⟩
      go_wp2
      go_ret2
      exact ⟨Below.refl _ _, by rw [HS.out]; rfl⟩
  · have HE := hid ((HE.out).trans (if_neg h0))
    have HS := hid ((HS.out).trans (if_neg (by rw [HE.out]; exact h0)))
    rw [HE.out] at HS
    have h1 : (gameE g != 0) = true := by simp [h0]
    clear h h0 hm
    generalize gameE g = v at *
    go_enter Try.func26, Try.ntmps26
    go_wp2_with fail
    refine HV.out.mono ?_
    rintro e w1 ⟨rfl, rfl⟩
    go_wp2
    go_ret2
    exact ⟨Below.refl _ _, by rw [HS.out]; rfl⟩
end Go.Proofs.Ytfjncmhbpfcdiaa
