/- The walk of the law GuessNeverWorse. -/
import Derived.Test.YtfjncmhbpfcdiaaGuD
import Derived.Test.YtfjncmhbpfcdiaaGuE
import Derived.Test.YtfjncmhbpfcdiaaGuLg
set_option linter.unusedVariables false
namespace Go.Proofs.Ytfjncmhbpfcdiaa
open Go.RowKit

theorem bound_ok6 (n u : Nat) (h1 : 1 ≤ n) (h2 : n ≤ 8) (h3 : u ≤ 24) : boundV n u = (((bndTo n u 25 : Nat) : Int), 0) := by
  unfold boundV
  rw [if_pos (by omega)]; rfl
theorem wrongV_ok {g : List Rnd} (h : gameE g = 0) (n : Nat) (hn : n < advs g) : wrongV g n = ((wrongN g n g.length : Int), 0) := by
  unfold wrongV chkG
  rw [if_pos h, if_pos (by simp [cinB]; omega), Int.toNat_natCast]
theorem errsV_ok {g : List Rnd} (h : gameE g = 0) : errsV g = ((errN 16777216 g g.length : Int), 0) := if_pos h
theorem bestV_ok {g : List Rnd} (h : gameN g = 0) : bestV g = ((bestTo g (advs g) : Int), (wrongN g (bestTo g (advs g)) g.length : Int), 0) := if_pos h
theorem bestV_no {g : List Rnd} (h : gameN g ≠ 0) : bestV g = (0, 0, gameN g) := if_neg h
set_option maxRecDepth 100000 in
set_option maxHeartbeats 2000000 in
theorem guessNeverWorse_walk (a : Option Addr) (g : List Rnd) (cap : Nat) (w : World) (h : GameRaw w a g) (hcap : g.length ≤ cap) :
  Calls Try.prog 6 #[.slice a g.length cap] w (BoolR w true) := by
  have hlen := h.1
  have HL := hid (long6_any a g cap w h)
  cases hl : longG g with
  | true =>
    rw [hl] at HL
    clear h hl
    go_enter Try.func6, Try.ntmps6
    go_wp2_with fail
    refine HL.out.mono ?_
    rintro e w1 ⟨rfl, rfl⟩
    go_wp2_with fail
    refine (known6_any _).mono ?_
    rintro e w2 ⟨hb, rfl⟩
    go_wp2
    go_ret
    exact ⟨hb, rfl⟩
  | false =>
    rw [hl] at HL
    have hG := h.game hl
    have H1 := hid (fun W (hb : Below w.heap.size w W) => gErrors_any a g cap W (hG.below hb))
    have H2 := hid (fun W (hb : Below w.heap.size w W) => gBest_any a g cap W (hG.below hb))
    by_cases h0 : gameN g = 0
    · obtain ⟨hg0, hpos⟩ := gameN_ok h0
      have hg := gameE_ok hg0
      have had := hg.adv 0 hpos
      rw [errsV_ok hg0] at H1
      rw [bestV_ok h0] at H2
      have H3 := hid (fun W (hb : Below w.heap.size w W) (n : Nat) (hn : n < advs g) => gWrongP_any a g cap n W (hG.below hb))
      have H3 := hid (fun W (hb : Below w.heap.size w W) (n : Nat) (hn : n < advs g) => (show Calls Try.prog 16 #[.slice a g.length cap, .int .i64 (n : Int)] W (DrwP W ((wrongN g n g.length : Int), 0)) from by rw [← wrongV_ok hg0 n hn]; exact H3.out W hb n hn))
      have H4 := hid (fun W (n : Nat) (hn : n < advs g) => (show Calls Try.prog 32 #[.int .i64 (advs g : Int), .int .i64 (wrongN g n g.length : Int)] W (PairB W (((bndTo (advs g) (wrongN g n g.length) 25 : Nat) : Int), 0)) from by
        have hw := wrongN_le g n g.length
        rw [← bound_ok6 (advs g) (wrongN g n g.length) had.2.1 had.2.2 (by have := hg.len; omega)]
        exact gBound_any _ _ W))
      have HM := hid (fun n (hn : n < advs g) => bestTo_min g (advs g) n hn)
      have HBd := hid (fun n (hn : n < advs g) => bound_errs g hg g.length (Nat.le_refl _) n hn)
      rcases hG.at_ with e | ⟨b, off, rfl, hc⟩
      · rw [e] at hpos; simp at hpos
      obtain ⟨A, c, c0, _, s0⟩ := hc 0 hpos
      rw [Nat.zero_mul, Nat.add_zero, had.1] at c0
      have HC0 := hid c0
      have hbl := cell_lt c0
      dsimp only at hbl
      have g0' : (0 : Int) < (g.length : Int) := by omega
      have ha8 : advs g ≤ 8 := had.2.2
      generalize errN 16777216 g g.length = en at *
      generalize wrongN g (bestTo g (advs g)) g.length = wl at *
      generalize bestTo g (advs g) = bt at *
      generalize advs g = d at *
      have P0 := hid (Below.refl w.heap.size w)
      clear h hl hG hc s0 c0 h0 hg0 hg had hpos
      go_enter Try.func6, Try.ntmps6
      go_wp2_with fail
      refine HL.out.mono ?_
      rintro e w1 ⟨rfl, rfl⟩
      go_wp2_with fail
      refine (H1.out _ P0.out).mono ?_
      rintro e w1 ⟨q1, rfl⟩
      have P1 := hid q1
      clear q1
      go_wp2_with fail
      refine (H2.out _ P1.out).mono ?_
      rintro e w2 ⟨n2, rfl, rfl⟩
      have P2 := hid (below_drewN P1.out n2)
      generalize hw2 : w1.drewN n2 = w2 at *
      clear hw2 P1
      go_wp2
      go_loopw [8] (fun i wr => ∃ (k : Nat), k ≤ d ∧ i = .int .i64 k ∧ Hid (Below w.heap.size w wr)) (fun i _ => d - (intOf i).toNat)
      case atStart => exact ⟨0, Nat.zero_le _, rfl, P2⟩
      case round =>
        obtain ⟨k, hk, rfl, HB⟩ := hrel
        have c9 : wr.cell? ⟨b, off, none⟩ = some (.slice A d c) := by rw [HB.out.cell (p := ⟨b, off, none⟩) hbl]; exact HC0.out
        by_cases hlt : k < d
        · have H5 := hid (H3.out wr HB.out k hlt)
          have H6 := hid (fun W => H4.out W k hlt)
          have hm := HM.out k hlt
          have he := HBd.out k hlt
          generalize wrongN g k g.length = u at *
          generalize bndTo d u 25 = bd at *
          have d1 : decide (u < wl) = false := decide_eq_false (by omega)
          have d2 : decide (bd < en) = false := decide_eq_false (by omega)
          go_wp2_with fail
          refine H5.out.mono ?_
          rintro e w3 ⟨n3, rfl, rfl⟩
          have HB3 := hid (below_drewN HB.out n3)
          go_wp2_with fail
          refine (H6.out _).mono ?_
          rintro e w4 ⟨rfl, rfl⟩
          go_wp2
          go_roundw
          case rel => exact ⟨k + 1, by omega, by go_num, HB3⟩
          case measure => simp [intOf]; omega
        · obtain rfl : k = d := by omega
          go_wp2_with fail
          refine (known6_any _).mono ?_
          rintro e w4 ⟨hb, rfl⟩
          have P4 := hid (HB.out.trans (hb.mono HB.out.size))
          clear hb
          go_wp2
          go_ret
          exact ⟨P4.out, rfl⟩
    · rw [bestV_no h0] at H2
      have h1 : (gameN g != 0) = true := by simp [h0]
      by_cases he0 : gameE g = 0
      · rw [errsV_ok he0] at H1
        generalize errN 16777216 g g.length = en at *
        generalize gameN g = v at *
        have P0 := hid (Below.refl w.heap.size w)
        clear h hl hG h0 he0
        go_enter Try.func6, Try.ntmps6
        go_wp2_with fail
        refine HL.out.mono ?_
        rintro e w1 ⟨rfl, rfl⟩
        go_wp2_with fail
        refine (H1.out _ P0.out).mono ?_
        rintro e w1 ⟨q1, rfl⟩
        have P1 := hid q1
        clear q1
        go_wp2_with fail
        refine (H2.out _ P1.out).mono ?_
        rintro e w2 ⟨n2, rfl, rfl⟩
        have P2 := hid (below_drewN P1.out n2)
        go_wp2_with fail
        refine (known6_any _).mono ?_
        rintro e w4 ⟨hb, rfl⟩
        have P4 := hid (P2.out.trans (hb.mono P2.out.size))
        clear hb
        go_wp2
        go_ret
        exact ⟨P4.out, rfl⟩
      · have h2 : (gameE g != 0) = true := by simp [he0]
        rw [show errsV g = (0, gameE g) from if_neg he0] at H1
        generalize gameE g = u at *
        generalize gameN g = v at *
        have P0 := hid (Below.refl w.heap.size w)
        clear h hl hG h0 he0
        go_enter Try.func6, Try.ntmps6
        go_wp2_with fail
        refine HL.out.mono ?_
        rintro e w1 ⟨rfl, rfl⟩
        go_wp2_with fail
        refine (H1.out _ P0.out).mono ?_
        rintro e w1 ⟨q1, rfl⟩
        have P1 := hid q1
        clear q1
        go_wp2_with fail
        refine (H2.out _ P1.out).mono ?_
        rintro e w2 ⟨n2, rfl, rfl⟩
        have P2 := hid (below_drewN P1.out n2)
        go_wp2_with fail
        refine (known6_any _).mono ?_
        rintro e w4 ⟨hb, rfl⟩
        have P4 := hid (P2.out.trans (hb.mono P2.out.size))
        clear hb
        go_wp2
        go_ret
        exact ⟨P4.out, rfl⟩
end Go.Proofs.Ytfjncmhbpfcdiaa
