/- The walk of the law KitchenBounds. -/
import Derived.Test.YteolckphafblmaaKiLg
import Derived.Test.YteolckphafblmaaKiBr
set_option linter.unusedVariables false
namespace Go.Proofs.Yteolckphafblmaa
open Go.RowKit

theorem bound_time {l : List Bt} {o : List Int} (h : chkE l o = 0) : bndV l = (boundV l, 0) ∧ boundV l ≤ timeO l o := by
  obtain ⟨hl, ho⟩ := chkE_ok h
  refine ⟨if_pos ?_, bound_le hl.NN _ (seqO_perm ho)⟩
  unfold chkE at h
  by_cases e : valE l = 0
  · exact e
  · rw [if_neg e] at h; exact absurd h e
set_option maxRecDepth 100000 in
set_option maxHeartbeats 2000000 in
theorem kitchenBounds_walk (a A : Option Addr) (l : List Bt) (o : List Int) (cap oc : Nat) (w : World) (h0 : l.length ≤ 9223372036854775807) (h : l.length ≤ 140737488355328 → Bts w a l) (g0 : o.length ≤ 9223372036854775807) (g : o.length ≤ 140737488355328 → Ints w A o) :
  Calls Try.prog 6 #[.slice a l.length cap, .slice A o.length oc] w (BoolR w true) := by
  have HL := hid (long7_any a A l.length o.length cap oc w h0 g0)
  cases hlg : longB l.length o.length with
  | true =>
    rw [hlg] at HL
    clear h g hlg
    go_enter Try.func6, Try.ntmps6
    go_wp2_with fail
    refine HL.out.mono ?_
    rintro e w1 ⟨rfl, rfl⟩
    go_wp2_with fail
    refine (known7_any _).mono ?_
    rintro e w9 ⟨hb, rfl⟩
    go_wp2
    go_ret
    exact ⟨hb, rfl⟩
  | false =>
    rw [hlg] at HL
    obtain ⟨hn, hm⟩ := longB_no hlg
    have hB := h (by omega)
    have hO := g (by omega)
    have H1 := hid (kBound_any a l cap w hB)
    have H2 := hid (fun W (hb : Below w.heap.size w W) => krBound_any a l cap W (hB.below hb))
    have H3 := hid (fun W (hb : Below w.heap.size w W) => kTime_any a A l o cap oc W (hB.below hb) (hO.below hb))
    have HE := hid (show timeV l o = if chkE l o = 0 then (timeO l o, 0) else (0, chkE l o) from rfl)
    by_cases hok : chkE l o = 0
    · obtain ⟨q1, q2⟩ := bound_time hok
      rw [q1] at H1 H2
      rw [HE.out, if_pos hok] at H3
      clear h g hlg hB hO HE hok q1
      generalize boundV l = x at *
      generalize timeO l o = y at *
      go_enter Try.func6, Try.ntmps6
      go_wp2_with fail
      refine HL.out.mono ?_
      rintro e w1 ⟨rfl, rfl⟩
      go_wp2_with fail
      refine H1.out.mono ?_
      rintro e w1 ⟨hb1, rfl⟩
      have P1 := hid hb1
      clear hb1
      go_wp2_with fail
      refine (H2.out _ P1.out).mono ?_
      rintro e w2 ⟨⟨n2, rfl⟩, rfl⟩
      have P2 := hid (below_drewN P1.out n2)
      go_wp2_with fail
      refine (H3.out _ P2.out).mono ?_
      rintro e w3 ⟨hb3, rfl⟩
      have P3 := hid (P2.out.trans (hb3.mono P2.out.size))
      clear hb3
      go_wp2_with fail
      refine (known7_any _).mono ?_
      rintro e w9 ⟨hb, rfl⟩
      have P9 := hid (P3.out.trans (hb.mono P3.out.size))
      clear hb
      go_wp2
      go_ret
      exact ⟨P9.out, rfl⟩
    · rw [HE.out, if_neg hok] at H3
      have h1 : (chkE l o != 0) = true := by simp [hok]
      clear h g hlg hB hO HE hok
      generalize bndV l = p at *
      obtain ⟨x, z⟩ := p
      generalize chkE l o = y at *
      go_enter Try.func6, Try.ntmps6
      go_wp2_with fail
      refine HL.out.mono ?_
      rintro e w1 ⟨rfl, rfl⟩
      go_wp2_with fail
      refine H1.out.mono ?_
      rintro e w1 ⟨hb1, rfl⟩
      have P1 := hid hb1
      clear hb1
      go_wp2_with fail
      refine (H2.out _ P1.out).mono ?_
      rintro e w2 ⟨⟨n2, rfl⟩, rfl⟩
      have P2 := hid (below_drewN P1.out n2)
      go_wp2_with fail
      refine (H3.out _ P2.out).mono ?_
      rintro e w3 ⟨hb3, rfl⟩
      have P3 := hid (P2.out.trans (hb3.mono P2.out.size))
      clear hb3
      go_wp2_with fail
      refine (known7_any _).mono ?_
      rintro e w9 ⟨hb, rfl⟩
      have P9 := hid (P3.out.trans (hb.mono P3.out.size))
      clear hb
      go_wp2
      go_ret
      exact ⟨P9.out, rfl⟩
end Go.Proofs.Yteolckphafblmaa
