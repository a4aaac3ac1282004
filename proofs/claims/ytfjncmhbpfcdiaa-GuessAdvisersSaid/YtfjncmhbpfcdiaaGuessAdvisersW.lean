/- The walk of the law GuessAdvisers. -/
import Derived.Test.YtfjncmhbpfcdiaaGuRC
import Derived.Test.YtfjncmhbpfcdiaaGuLg
import Derived.Test.YtfjncmhbpfcdiaaSame
set_option linter.unusedVariables false
namespace Go.Proofs.Ytfjncmhbpfcdiaa
open Go.RowKit

theorem same_self (xs : List Int) : sameB xs xs = true := by simp [sameB]
/-- All that a law on a game may ask of the program, in later worlds too. -/
theorem game_below {w W : World} {a : Option Addr} {g : List Rnd} (h : GameAt w a g) (hb : Below w.heap.size w W) : GameAt W a g := h.below hb
set_option maxRecDepth 100000 in
set_option maxHeartbeats 2000000 in
theorem guessAdvisers_walk (a : Option Addr) (g : List Rnd) (cap : Nat) (x : Int) (w : World) (h : GameRaw w a g) (hcap : g.length ≤ cap) (bx : -9223372036854775808 ≤ x ∧ x ≤ 9223372036854775807) :
  Calls Try.prog 3 #[.slice a g.length cap, .int .i64 x] w (BoolR w true) := by
  have hlen := h.1
  have HL := hid (long6_any a g cap w h)
  cases hl : longG g with
  | true =>
    rw [hl] at HL
    clear h hl
    go_enter Try.func3, Try.ntmps3
    go_wp2_with fail
    refine HL.out.mono ?_
    rintro e w1 ⟨rfl, rfl⟩
    go_wp2_with fail
    refine (known6_any _).mono ?_
    rintro e w2 ⟨hb, rfl⟩
    go_wp2
    go_ret
    exact ⟨hb, rfl⟩
  | false =>
    rw [hl] at HL
    have hG := h.game hl
    have H1 := hid (fun W (hb : Below w.heap.size w W) => gWrongP_any a g cap x W (hG.below hb))
    have H2 := hid (fun W (hb : Below w.heap.size w W) => grWrongP_any a g cap x W (hG.below hb))
    have H3 := hid (fun W (hb : Below w.heap.size w W) => gWeights_any a g cap W (hG.below hb))
    have H4 := hid (fun W (hb : Below w.heap.size w W) => grWeights_any a g cap W (hG.below hb))
    have H5 := hid (fun W (hb : Below w.heap.size w W) => gBest_any a g cap W (hG.below hb))
    have H6 := hid (fun W (hb : Below w.heap.size w W) => grBest_any a g cap W (hG.below hb))
    have H7 := hid (fun W (hb : Below w.heap.size w W) => gValidate_any a g cap W (hG.below hb))
    have H8 := hid (fun W (hb : Below w.heap.size w W) => grValidate_any a g cap W (hG.below hb))
    generalize wrongV g x = p at *
    generalize wtsV g = q at *
    generalize bestV g = r at *
    generalize gameE g = v at *
    obtain ⟨p1, p2⟩ := p
    obtain ⟨ql, qe⟩ := q
    obtain ⟨r1, r2, r3⟩ := r
    have P0 := hid (Below.refl w.heap.size w)
    clear h hl hG
    go_enter Try.func3, Try.ntmps3
    go_wp2_with fail
    refine HL.out.mono ?_
    rintro e w1 ⟨rfl, rfl⟩
    go_wp2_with fail
    refine (H1.out _ P0.out).mono ?_
    rintro e w1 ⟨n1, rfl, rfl⟩
    have P1 := hid (below_drewN P0.out n1)
    go_wp2_with fail
    refine (H2.out _ P1.out).mono ?_
    rintro e w2 ⟨n2, rfl, rfl⟩
    have P2 := hid (below_drewN P1.out n2)
    rw [World.drewN_drewN] at P2
    go_wp2_with fail
    refine (H3.out _ P2.out).mono ?_
    rintro e w3 ⟨q3, A3, c3, rfl, i3⟩
    have P3 := hid (P2.out.trans (q3.mono P2.out.size))
    have I3 := hid i3
    have hl3 := i3.len
    clear q3 i3
    go_wp2_with fail
    refine (H4.out _ P3.out).mono ?_
    rintro e w4 ⟨q4, A4, c4, rfl, i4⟩
    have P4 := hid (P3.out.trans (q4.mono P3.out.size))
    have I3 := hid (I3.out.below q4)
    have I4 := hid i4
    clear q4 i4
    go_wp2_with fail
    refine (H5.out _ P4.out).mono ?_
    rintro e w5 ⟨n5, rfl, rfl⟩
    have P5 := hid (below_drewN P4.out n5)
    go_wp2_with fail
    refine (H6.out _ P5.out).mono ?_
    rintro e w6 ⟨n6, rfl, rfl⟩
    have P6 := hid (below_drewN P5.out n6)
    rw [World.drewN_drewN] at P6
    go_wp2_with fail
    refine (H7.out _ P6.out).mono ?_
    rintro e w7 ⟨n7, rfl, rfl⟩
    have P7 := hid (below_drewN P6.out n7)
    rw [World.drewN_drewN] at P7
    go_wp2_with fail
    refine (H8.out _ P7.out).mono ?_
    rintro e w8 ⟨rfl, rfl⟩
    have HSm := hid (same_any A3 A4 ql ql c3 c4 _ (I3.out.drewN (n5 + n6 + n7)) (I4.out.drewN (n5 + n6 + n7)))
    rw [same_self] at HSm
    go_wp2_with fail
    refine HSm.out.mono ?_
    rintro e w9 ⟨⟨n9, rfl⟩, rfl⟩
    have P9 := hid (below_drewN P7.out n9)
    rw [World.drewN_drewN] at P9
    go_wp2_with fail
    refine (known6_any _).mono ?_
    rintro e w10 ⟨hb, rfl⟩
    have P10 := hid (P9.out.trans (hb.mono P9.out.size))
    clear hb
    go_wp2
    go_ret
    exact ⟨P10.out, rfl⟩
end Go.Proofs.Ytfjncmhbpfcdiaa
