/- The walk of the law KitchenLate. -/
import Derived.Test.YteolckphafblmaaKiLate
import Derived.Test.YteolckphafblmaaKiLg
set_option linter.unusedVariables false
namespace Go.Proofs.Yteolckphafblmaa
open Go.RowKit

set_option maxRecDepth 100000 in
set_option maxHeartbeats 4000000 in
theorem kitchenLate_walk (a A D : Option Addr) (l : List Bt) (o du : List Int) (cap oc dc : Nat) (w : World) (h0 : l.length ≤ 9223372036854775807) (h : l.length ≤ 140737488355328 → Bts w a l) (g0 : o.length ≤ 9223372036854775807) (g : o.length ≤ 140737488355328 → Ints w A o) (d0 : du.length ≤ 9223372036854775807) (d : du.length ≤ 140737488355328 → Ints w D du) :
  Calls Try.prog 10 #[.slice a l.length cap, .slice A o.length oc, .slice D du.length dc] w (BoolR w true) := by
  have HL := hid (long7_any a A l.length o.length cap oc w h0 g0)
  cases hlg : longB l.length o.length with
  | true =>
    rw [hlg] at HL
    clear h g d hlg
    go_enter Try.func10, Try.ntmps10
    go_wp2_with fail
    refine HL.out.mono ?_
    rintro e w1 ⟨rfl, rfl⟩
    go_wp2_with fail
    refine (known7_any _).mono ?_
    rintro e w9 ⟨hb, rfl⟩
    go_wp2
    go_ret
    exact ⟨hb, rfl⟩
  | false =>
    rw [hlg] at HL
    obtain ⟨hn, hm⟩ := longB_no hlg
    by_cases hd : 100 < du.length
    · have hd' : (100 : Int) < (du.length : Int) := by omega
      clear h g d hlg hd
      go_enter Try.func10, Try.ntmps10
      go_wp2_with fail
      refine HL.out.mono ?_
      rintro e w1 ⟨rfl, rfl⟩
      go_wp2_with fail
      refine (known7_any _).mono ?_
      rintro e w9 ⟨hb, rfl⟩
      go_wp2
      go_ret
      exact ⟨hb, rfl⟩
    have hd' : (du.length : Int) ≤ 100 := by omega
    have hB := h (by omega)
    have hO := g (by omega)
    have hU := d (by omega)
    clear h g d hlg hd
    by_cases hok : ltE l o du = 0
    · have H1 := hid (kLate_ok a A D l o du cap oc dc w hB hO hU hok)
      have H2 := hid (fun W (hb : Below w.heap.size w W) => krLate_ok a A D l o du cap oc dc W (hB.below hb) (hO.below hb) (hU.below hb) hok)
      clear hB hO hU hok
      generalize refTo o (duF o du (seqO l o)) l.length = R at *
      go_enter Try.func10, Try.ntmps10
      go_wp2_with fail
      refine HL.out.mono ?_
      rintro e w1 ⟨rfl, rfl⟩
      go_wp2_with fail
      refine H1.out.mono ?_
      rintro e w1 ⟨hb1, A1, c1, rfl, i1⟩
      have P1 := hid hb1
      have I1 := hid i1
      have hrl := i1.len
      clear hb1 i1
      go_wp2_with fail
      refine (H2.out _ P1.out).mono ?_
      rintro e w2 ⟨hb2, A2, c2, rfl, i2⟩
      have P2 := hid (P1.out.trans (hb2.mono P1.out.size))
      have J1 := hid (I1.out.below hb2)
      have J2 := hid i2
      clear hb2 i2
      go_wp2_with fail
      refine (sameInts7_self A1 A2 R c1 c2 w2 J1.out J2.out).mono ?_
      rintro e w3 ⟨⟨n3, rfl⟩, rfl⟩
      have P3 := hid (below_drewN P2.out n3)
      go_wp2_with fail
      refine (known7_any _).mono ?_
      rintro e w9 ⟨hb, rfl⟩
      have P9 := hid (P3.out.trans (hb.mono P3.out.size))
      clear hb
      go_wp2
      go_ret
      exact ⟨P9.out, rfl⟩
    · have H1 := hid (kLate_bad a A D l o du cap oc dc w hB hO hU hok)
      have H2 := hid (fun W (hb : Below w.heap.size w W) => krLate_bad a A D l o du cap oc dc W (hB.below hb) (hO.below hb) (hU.below hb) hok)
      clear hB hO hU hok
      generalize ltE l o du = ve at *
      go_enter Try.func10, Try.ntmps10
      go_wp2_with fail
      refine HL.out.mono ?_
      rintro e w1 ⟨rfl, rfl⟩
      go_wp2_with fail
      refine H1.out.mono ?_
      rintro e w1 ⟨hb1, rfl⟩
      have P1 := hid hb1
      clear hb1
      go_wp2_with fail
      refine (H2.out _ P1.out).mono ?_
      rintro e w2 ⟨hb2, rfl⟩
      have P2 := hid (P1.out.trans (hb2.mono P1.out.size))
      clear hb2
      go_wp2_with fail
      refine (sameInts7_self none none [] 0 0 w2 ⟨by simp, .inl rfl, by simp⟩ ⟨by simp, .inl rfl, by simp⟩).mono ?_
      rintro e w3 ⟨⟨n3, rfl⟩, rfl⟩
      have P3 := hid (below_drewN P2.out n3)
      go_wp2_with fail
      refine (known7_any _).mono ?_
      rintro e w9 ⟨hb, rfl⟩
      have P9 := hid (P3.out.trans (hb.mono P3.out.size))
      clear hb
      go_wp2
      go_ret
      exact ⟨P9.out, rfl⟩
end Go.Proofs.Yteolckphafblmaa
