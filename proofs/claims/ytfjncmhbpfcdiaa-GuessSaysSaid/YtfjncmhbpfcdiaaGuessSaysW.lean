/- The walk of the law GuessSays. -/
import Derived.Test.YtfjncmhbpfcdiaaGuRB
import Derived.Test.YtfjncmhbpfcdiaaGuLg
set_option linter.unusedVariables false
namespace Go.Proofs.Ytfjncmhbpfcdiaa
open Go.RowKit

set_option maxRecDepth 100000 in
set_option maxHeartbeats 2000000 in
theorem guessSays_walk (a A : Option Addr) (g : List Rnd) (l : List Bool) (cap lc : Nat) (w : World) (h : GameRaw w a g) (hcap : g.length ≤ cap) (hm : MarksRaw w A l) :
  Calls Try.prog 4 #[.slice a g.length cap, .slice A l.length lc] w (BoolR w true) := by
  have hlen := h.1
  have hln := hm.1
  have HL := hid (long6_any a g cap w h)
  cases hl : longG g with
  | true =>
    rw [hl] at HL
    clear h hl
    go_enter Try.func4, Try.ntmps4
    go_wp2_with fail
    refine HL.out.mono ?_
    rintro e w1 ⟨rfl, rfl⟩
    go_wp2_with fail
    refine (known6_any _).mono ?_
    rintro e w2 ⟨hb, rfl⟩
    go_wp2
    go_ret
    exact ⟨hb, rfl⟩
  | false =>
    rw [hl] at HL
    by_cases h40 : 40 < l.length
    · have h40' : (40 : Int) < (l.length : Int) := by omega
      clear h hl h40
      go_enter Try.func4, Try.ntmps4
      go_wp2_with fail
      refine HL.out.mono ?_
      rintro e w1 ⟨rfl, rfl⟩
      go_wp2_with fail
      refine (known6_any _).mono ?_
      rintro e w2 ⟨hb, rfl⟩
      go_wp2
      go_ret
      exact ⟨hb, rfl⟩
    · have h40' : (l.length : Int) ≤ 40 := by omega
      have hG := h.game hl
      have hM := hm.2 (by omega)
      have H1 := hid (fun W (hb : Below w.heap.size w W) => gSayP_any a A g l cap lc W (hG.below hb) (hM.below hb))
      have H2 := hid (fun W (hb : Below w.heap.size w W) => grSay_any a A g l cap lc W (hG.below hb) (hM.below hb))
      have H3 := hid (fun W (hb : Below w.heap.size w W) => gSaid_any a g cap W (hG.below hb))
      have H4 := hid (fun W (hb : Below w.heap.size w W) => grSaid_any a g cap W (hG.below hb) hcap)
      have H5 := hid (fun W (hb : Below w.heap.size w W) => gErrors_any a g cap W (hG.below hb))
      have H6 := hid (fun W (hb : Below w.heap.size w W) => grErrors_any a g cap W (hG.below hb) hcap)
      generalize sayV g l = p at *
      generalize saidV g = q at *
      generalize errsV g = r at *
      obtain ⟨p1, p2⟩ := p
      obtain ⟨ql, qe⟩ := q
      obtain ⟨r1, r2⟩ := r
      have P0 := hid (Below.refl w.heap.size w)
      clear h hl hG hM hm h40
      go_enter Try.func4, Try.ntmps4
      go_wp2_with fail
      refine HL.out.mono ?_
      rintro e w1 ⟨rfl, rfl⟩
      go_wp2_with fail
      refine (H1.out _ P0.out).mono ?_
      rintro e w1 ⟨q1, rfl⟩
      have P1 := hid q1
      clear q1
      go_wp2_with fail
      refine (H2.out _ P1.out).mono ?_
      rintro e w2 ⟨q2, rfl⟩
      have P2 := hid (P1.out.trans (q2.mono P1.out.size))
      clear q2
      go_wp2_with fail
      refine (H3.out _ P2.out).mono ?_
      rintro e w3 ⟨q3, A3, c3, rfl, i3⟩
      have P3 := hid (P2.out.trans (q3.mono P2.out.size))
      have I3 := hid i3
      have hl3 := i3.len
      clear q3 i3
      go_wp2_with fail
      refine (H4.out _ P3.out).mono ?_
      rintro e w4 ⟨q4, A4, c4, rfl, i4⟩
      have P4 := hid (P3.out.trans (q4.mono P3.out.size))
      have J3 := hid (I3.out.below q4)
      have I4 := hid i4
      clear q4 i4
      go_wp2_with fail
      refine (H5.out _ P4.out).mono ?_
      rintro e w5 ⟨q5, rfl⟩
      have P5 := hid (P4.out.trans (q5.mono P4.out.size))
      have K3 := hid (J3.out.below q5)
      have K4 := hid (I4.out.below q5)
      clear q5
      go_wp2_with fail
      refine (H6.out _ P5.out).mono ?_
      rintro e w6 ⟨q6, rfl⟩
      have P6 := hid (P5.out.trans (q6.mono P5.out.size))
      have L3 := hid (K3.out.below q6)
      have L4 := hid (K4.out.below q6)
      clear q6
      go_wp2_with fail
      refine (sameBools_self A3 A4 ql c3 c4 w6 L3.out L4.out).mono ?_
      rintro e w9 ⟨⟨n9, rfl⟩, rfl⟩
      have P9 := hid (below_drewN P6.out n9)
      go_wp2_with fail
      refine (known6_any _).mono ?_
      rintro e w10 ⟨hb, rfl⟩
      have P10 := hid (P9.out.trans (hb.mono P9.out.size))
      clear hb
      go_wp2
      go_ret
      exact ⟨P10.out, rfl⟩
end Go.Proofs.Ytfjncmhbpfcdiaa
