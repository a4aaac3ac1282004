/- The walk of the law KitchenRuns. -/
import Derived.Test.YteolckphafblmaaKiI
import Derived.Test.YteolckphafblmaaKiLg
set_option linter.unusedVariables false
namespace Go.Proofs.Yteolckphafblmaa
open Go.RowKit

set_option maxRecDepth 100000 in
set_option maxHeartbeats 4000000 in
theorem kitchenRuns_walk (a A : Option Addr) (l : List Bt) (o : List Int) (cap oc : Nat) (w : World) (h0 : l.length ≤ 9223372036854775807) (h : l.length ≤ 140737488355328 → Bts w a l) (g0 : o.length ≤ 9223372036854775807) (g : o.length ≤ 140737488355328 → Ints w A o) :
  Calls Try.prog 3 #[.slice a l.length cap, .slice A o.length oc] w (BoolR w true) := by
  have HL := hid (long7_any a A l.length o.length cap oc w h0 g0)
  cases hlg : longB l.length o.length with
  | true =>
    rw [hlg] at HL
    clear h g hlg
    go_enter Try.func3, Try.ntmps3
    go_wp2_with fail
    refine HL.out.mono ?_
    rintro e w1 ⟨rfl, rfl⟩
    go_wp2_with fail
    refine (known7_any _).mono ?_
    rintro e w9 ⟨hb, rfl⟩
    go_wp2
    go_ret
    exact ⟨hb, rfl⟩
  | false =>
    rw [hlg] at HL
    obtain ⟨hn, hm⟩ := longB_no hlg
    have hB := h (by omega)
    have hO := g (by omega)
    have H3 := hid (fun W (hb : Below w.heap.size w W) => kTime_any a A l o cap oc W (hB.below hb) (hO.below hb))
    have H4 := hid (fun W (hb : Below w.heap.size w W) => krTime_any a A l o cap oc W (hB.below hb) (hO.below hb))
    have H5 := hid (fun W (hb : Below w.heap.size w W) => kIdle_any a A l o cap oc W (hB.below hb) (hO.below hb))
    have H6 := hid (fun W (hb : Below w.heap.size w W) => krIdle_any a A l o cap oc W (hB.below hb) (hO.below hb))
    have H7 := hid (fun W (hb : Below w.heap.size w W) => kValidate_any a l cap W (hB.below hb))
    have H8 := hid (fun W (hb : Below w.heap.size w W) => krValidate_any a l cap W (hB.below hb))
    generalize timeV l o = p at *
    obtain ⟨p1, p2⟩ := p
    generalize idleV l o = q at *
    obtain ⟨q1, q2⟩ := q
    generalize valE l = ve at *
    by_cases hok : chkE l o = 0
    · have H1 := hid (kRunP_ok a A l o cap oc w hB hO hok)
      have H2 := hid (fun W (hb : Below w.heap.size w W) => krRunP_ok a A l o cap oc W (hB.below hb) (hO.below hb) hok)
      have hol7 : o.length ≤ 7 := by obtain ⟨hl, ho⟩ := chkE_ok hok; rw [ho.len]; exact hl.len
      clear h g hlg hB hO hok
      generalize seqO l o = s at *
      go_enter Try.func3, Try.ntmps3
      go_wp2_with fail
      refine HL.out.mono ?_
      rintro e w1 ⟨rfl, rfl⟩
      go_wp2_with fail
      refine H1.out.mono ?_
      rintro e w1 ⟨hb1, A1, c1, rfl, s1⟩
      have P1 := hid hb1
      have S1 := hid s1
      clear hb1 s1
      go_wp2_with fail
      refine (H2.out _ P1.out).mono ?_
      rintro e w2 ⟨hb2, A2, c2, rfl, s2⟩
      have P2 := hid (P1.out.trans (hb2.mono P1.out.size))
      have T1 := hid (S1.out.below hb2)
      have T2 := hid s2
      clear hb2 s2
      go_wp2_with fail
      refine (H3.out _ P2.out).mono ?_
      rintro e w3 ⟨hb3, rfl⟩
      have P3 := hid (P2.out.trans (hb3.mono P2.out.size))
      have U1 := hid (T1.out.below hb3)
      have U2 := hid (T2.out.below hb3)
      clear hb3
      go_wp2_with fail
      refine (H4.out _ P3.out).mono ?_
      rintro e w4 ⟨rfl, rfl⟩
      go_wp2_with fail
      refine (H5.out _ P3.out).mono ?_
      rintro e w5 ⟨hb5, rfl⟩
      have P5 := hid (P3.out.trans (hb5.mono P3.out.size))
      have V1 := hid (U1.out.below hb5)
      have V2 := hid (U2.out.below hb5)
      clear hb5
      go_wp2_with fail
      refine (H6.out _ P5.out).mono ?_
      rintro e w6 ⟨hb6, rfl⟩
      have P6 := hid (P5.out.trans (hb6.mono P5.out.size))
      have W1 := hid (V1.out.below hb6)
      have W2 := hid (V2.out.below hb6)
      clear hb6
      go_wp2_with fail
      refine (H7.out _ P6.out).mono ?_
      rintro e w7 ⟨hb7, rfl⟩
      have P7 := hid (P6.out.trans (hb7.mono P6.out.size))
      have X1 := hid (W1.out.below hb7)
      have X2 := hid (W2.out.below hb7)
      clear hb7
      go_wp2_with fail
      refine (H8.out _ P7.out).mono ?_
      rintro e w8 ⟨rfl, rfl⟩
      clear S1 T1 T2 U1 U2 V1 V2 W1 W2 H1 H2 H3 H4 H5 H6 H7 H8
      go_wp2
      go_loopw [17] (fun i wr => ∃ (j : Nat), j ≤ o.length ∧ i = .int .i64 j ∧ Hid (Below w.heap.size w wr) ∧ Hid (Below w7.heap.size w7 wr)) (fun i _ => o.length - (intOf i).toNat)
      case atStart => exact ⟨0, Nat.zero_le _, rfl, P7, Below.refl _ _⟩
      case round =>
        obtain ⟨j, hj, rfl, HB, HB2⟩ := hrel
        by_cases hlt : j < o.length
        · rcases (X1.out.below HB2.out).at_ with e | ⟨b, off, rfl, hc⟩
          · rw [e] at hlt; simp at hlt
          rcases (X2.out.below HB2.out).at_ with e | ⟨b2, off2, rfl, hc2⟩
          · rw [e] at hlt; simp at hlt
          obtain ⟨c0, c1, c2', c3, c4⟩ := hc j hlt
          obtain ⟨d0, d1, d2, d3, d4⟩ := hc2 j hlt
          have hd : decide (j < o.length) = true := decide_eq_true hlt
          have i0 : (0 : Int) ≤ (j : Int) := by omega
          have i1 : (j : Int) < (o.length : Int) := by omega
          clear hc hc2 X1 X2 P7
          generalize oAt o j = x0 at *
          generalize max (cookTo s (j + 1)) (packTo s j) = x3 at *
          generalize cookTo s (j + 1) = x2 at *
          generalize cookTo s j = x1 at *
          generalize packTo s (j + 1) = x4 at *
          go_wp2_with fail
          go_quiet (fail)
          go_wp2
          go_roundw
          case rel => exact ⟨j + 1, by omega, by go_num, below_drewN HB.out _, below_drewN HB2.out _⟩
          case measure => simp [intOf]; omega
        · obtain rfl : j = o.length := by omega
          have hd : decide (o.length < o.length) = false := decide_eq_false (Nat.lt_irrefl _)
          go_wp2_with fail
          refine (known7_any _).mono ?_
          rintro e w9 ⟨hb, rfl⟩
          have P9 := hid (HB.out.trans (hb.mono HB.out.size))
          clear hb
          go_wp2
          go_ret
          exact ⟨P9.out, rfl⟩
    · have H1 := hid (kRunP_bad a A l o cap oc w hB hO hok)
      have H2 := hid (fun W (hb : Below w.heap.size w W) => krRunP_bad a A l o cap oc W (hB.below hb) (hO.below hb) hok)
      clear h g hlg hB hO hok
      generalize chkE l o = ce at *
      go_enter Try.func3, Try.ntmps3
      go_wp2_with fail
      refine HL.out.mono ?_
      rintro e w1 ⟨rfl, rfl⟩
      go_wp2_with fail
      refine H1.out.mono ?_
      rintro e w1 ⟨hb1, rfl⟩
      have P1 := hid hb1
      clear hb1
      go_wp2_with fail
      refine (H2.out _ P1.out).mono ?_
      rintro e w2 ⟨hb2, rfl⟩
      have P2 := hid (P1.out.trans (hb2.mono P1.out.size))
      clear hb2
      go_wp2_with fail
      refine (H3.out _ P2.out).mono ?_
      rintro e w3 ⟨hb3, rfl⟩
      have P3 := hid (P2.out.trans (hb3.mono P2.out.size))
      clear hb3
      go_wp2_with fail
      refine (H4.out _ P3.out).mono ?_
      rintro e w4 ⟨rfl, rfl⟩
      go_wp2_with fail
      refine (H5.out _ P3.out).mono ?_
      rintro e w5 ⟨hb5, rfl⟩
      have P5 := hid (P3.out.trans (hb5.mono P3.out.size))
      clear hb5
      go_wp2_with fail
      refine (H6.out _ P5.out).mono ?_
      rintro e w6 ⟨hb6, rfl⟩
      have P6 := hid (P5.out.trans (hb6.mono P5.out.size))
      clear hb6
      go_wp2_with fail
      refine (H7.out _ P6.out).mono ?_
      rintro e w7 ⟨hb7, rfl⟩
      have P7 := hid (P6.out.trans (hb7.mono P6.out.size))
      clear hb7
      go_wp2_with fail
      refine (H8.out _ P7.out).mono ?_
      rintro e w8 ⟨rfl, rfl⟩
      clear H1 H2 H3 H4 H5 H6 H7 H8
      go_wp2
      refine wp_loop_rounds 1 ?_
      rw [rounds_succ]
      go_wp2_with fail
      refine (known7_any _).mono ?_
      rintro e w9 ⟨hb, rfl⟩
      have P9 := hid (P7.out.trans (hb.mono P7.out.size))
      clear hb
      go_wp2
      go_ret
      exact ⟨P9.out, rfl⟩
end Go.Proofs.Yteolckphafblmaa
