/- The walk of the law KitchenSorted. -/
import Derived.Test.YteolckphafblmaaKiLst
import Derived.Test.YteolckphafblmaaKiSo
import Derived.Test.YteolckphafblmaaKiLg
set_option linter.unusedVariables false
namespace Go.Proofs.Yteolckphafblmaa
open Go.RowKit

set_option maxRecDepth 100000 in
set_option maxHeartbeats 4000000 in
theorem kitchenSorted_walk (a A : Option Addr) (l : List Bt) (o : List Int) (cap oc : Nat) (w : World) (h0 : l.length ≤ 9223372036854775807) (h : l.length ≤ 140737488355328 → Bts w a l) (g0 : o.length ≤ 9223372036854775807) (g : o.length ≤ 140737488355328 → Ints w A o) :
  Calls Try.prog 8 #[.slice a l.length cap, .slice A o.length oc] w (BoolR w true) := by
  have HL := hid (long7_any a A l.length o.length cap oc w h0 g0)
  cases hlg : longB l.length o.length with
  | true =>
    rw [hlg] at HL
    clear h g hlg
    go_enter Try.func8, Try.ntmps8
    go_wp2_with fail
    refine (HL.out).mono ?_
    rintro e w' ⟨rfl, rfl⟩
    go_wp2_with fail
    refine (known7_any _).mono ?_
    rintro e w99 ⟨hb, rfl⟩
    have P99 := hid hb
    clear hb
    go_wp2
    go_ret
    exact ⟨P99.out, rfl⟩
  | false =>
    rw [hlg] at HL
    obtain ⟨hn, hm⟩ := longB_no hlg
    have hB := h (by omega)
    have hO := g (by omega)
    clear h g hlg
    have H1 := hid (kSorted_any a A l o cap oc w hB hO)
    have H2 := hid (fun W (hb : Below w.heap.size w W) => krSorted_any a A l o cap oc W (hB.below hb) (hO.below hb))
    have HE := hid (show sortV l o = if chkE l o = 0 then (sortedO l o, 0) else (false, chkE l o) from rfl)
    cases hs : (sortV l o).1 with
    | false =>
      clear hB hO HE
      obtain ⟨p, hp⟩ : ∃ p, sortV l o = p := ⟨_, rfl⟩
      rw [hp] at H1 H2 hs
      obtain ⟨p1, p2⟩ := p
      dsimp only at hs
      subst hs
      clear hp
      go_enter Try.func8, Try.ntmps8
      go_wp2_with fail
      refine (HL.out).mono ?_
      rintro e w' ⟨rfl, rfl⟩
      go_wp2_with fail
      refine (H1.out).mono ?_
      rintro e w1 ⟨hb1, rfl⟩
      have P1 := hid hb1
      clear hb1
      go_wp2_with fail
      refine (H2.out _ P1.out).mono ?_
      rintro e w2 ⟨hb2, rfl⟩
      have P2 := hid (P1.out.trans (hb2.mono P1.out.size))
      clear hb2
      go_wp2_with fail
      refine (known7_any _).mono ?_
      rintro e w99 ⟨hb, rfl⟩
      have P99 := hid (P2.out.trans (hb.mono P2.out.size))
      clear hb
      go_wp2
      go_ret
      exact ⟨P99.out, rfl⟩
    | true =>
      have hc : chkE l o = 0 := by
        by_cases hc : chkE l o = 0
        · exact hc
        · rw [HE.out, if_neg hc] at hs; cases hs
      have hso : sortedO l o = true := by rw [HE.out, if_pos hc] at hs; exact hs
      obtain ⟨hl, ho⟩ := chkE_ok hc
      have hv : valE l = 0 := by
        unfold chkE at hc
        by_cases e : valE l = 0
        · exact e
        · rw [if_neg e] at hc; exact absurd hc e
      have H3 := hid (fun W (hb : Below w.heap.size w W) => kLeast_ok a l cap W (hB.below hb) hv)
      have H4 := hid (fun W (hb : Below w.heap.size w W) => kTime_any a A l o cap oc W (hB.below hb) (hO.below hb))
      rw [show timeV l o = (timeO l o, 0) from if_pos hc] at H4
      rw [show sortV l o = (true, 0) by rw [HE.out, if_pos hc, hso]] at H1 H2
      have HSL := hid (fun m (hm : IsLeast l m) => sorted_least ho hso hm)
      clear hB hO HE hs hc hso hl ho hv
      generalize timeO l o = tv at *
      go_enter Try.func8, Try.ntmps8
      go_wp2_with fail
      refine (HL.out).mono ?_
      rintro e w' ⟨rfl, rfl⟩
      go_wp2_with fail
      refine (H1.out).mono ?_
      rintro e w1 ⟨hb1, rfl⟩
      have P1 := hid hb1
      clear hb1
      go_wp2_with fail
      refine (H2.out _ P1.out).mono ?_
      rintro e w2 ⟨hb2, rfl⟩
      have P2 := hid (P1.out.trans (hb2.mono P1.out.size))
      clear hb2
      go_wp2_with fail
      refine (H3.out _ P2.out).mono ?_
      rintro e w3 ⟨hb3, m, hm3, rfl⟩
      have P3 := hid (P2.out.trans (hb3.mono P2.out.size))
      have hte := HSL.out m hm3
      subst hte
      clear hb3 hm3
      go_wp2_with fail
      refine (H4.out _ P3.out).mono ?_
      rintro e w4 ⟨hb4, rfl⟩
      have P4 := hid (P3.out.trans (hb4.mono P3.out.size))
      clear hb4
      go_wp2_with fail
      refine (known7_any _).mono ?_
      rintro e w99 ⟨hb, rfl⟩
      have P99 := hid (P4.out.trans (hb.mono P4.out.size))
      clear hb
      go_wp2
      go_ret
      exact ⟨P99.out, rfl⟩
end Go.Proofs.Yteolckphafblmaa
