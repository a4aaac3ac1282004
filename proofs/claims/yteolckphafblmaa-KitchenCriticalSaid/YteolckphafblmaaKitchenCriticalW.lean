/- The walk of the law KitchenCritical. -/
import Derived.Test.YteolckphafblmaaKiLg
set_option linter.unusedVariables false
namespace Go.Proofs.Yteolckphafblmaa
open Go.RowKit

set_option maxRecDepth 100000 in
set_option maxHeartbeats 2000000 in
theorem kitchenCritical_walk (a A : Option Addr) (l : List Bt) (o : List Int) (cap oc : Nat) (w : World) (h0 : l.length ≤ 9223372036854775807) (h : l.length ≤ 140737488355328 → Bts w a l) (g0 : o.length ≤ 9223372036854775807) (g : o.length ≤ 140737488355328 → Ints w A o) :
  Calls Try.prog 4 #[.slice a l.length cap, .slice A o.length oc] w (BoolR w true) := by
  have HL := hid (long7_any a A l.length o.length cap oc w h0 g0)
  cases hlg : longB l.length o.length with
  | true =>
    rw [hlg] at HL
    clear h g hlg
    go_enter Try.func4, Try.ntmps4
    go_wp2_with fail
    refine HL.out.mono ?_
    rintro e w1 ⟨rfl, rfl⟩
    go_wp2_with fail
    refine (known7_any _).mono ?_
    rintro e w9 ⟨hb, rfl⟩
    go_wp2
    go_ret
    exact ⟨hb, rfl⟩
  | false =>
    rw [hlg] at HL
    obtain ⟨hn, hm⟩ := longB_no hlg
    have hB := h (by omega)
    have hO := g (by omega)
    have H1 := hid (kCritical_any a A l o cap oc w hB hO)
    have H2 := hid (fun W (hb : Below w.heap.size w W) => krCritical_any a A l o cap oc W (hB.below hb) (hO.below hb))
    have HE := hid (show critV l o = if chkE l o = 0 then (if l.length = 0 then (0, 5) else (((critF (seqO l o) : Nat) : Int), 0)) else (0, chkE l o) from rfl)
    by_cases hok : chkE l o = 0 ∧ l.length ≠ 0
    · obtain ⟨hl, ho⟩ := chkE_ok hok.1
      have hol := ho.len
      have HT := hid (fun W (hb : Below w.heap.size w W) => kTime_any a A l o cap oc W (hB.below hb) (hO.below hb))
      rw [show timeV l o = (timeO l o, 0) from if_pos hok.1] at HT
      rw [show critV l o = (((critF (seqO l o) : Nat) : Int), 0) by rw [HE.out, if_pos hok.1, if_neg hok.2]] at H1 H2
      have hcr := critF_crit (s := seqO l o) (NN_of (seq_ok hl ho)) (by rw [seqO_len, hol]; omega)
      have hkl := hcr.lt
      rw [seqO_len] at hkl
      have HP := hid (fun W (hb : Below w.heap.size w W) i (hi : i < o.length) => at_place (hB.below hb) (hO.below hb) hl ho i hi)
      have HS := hid (seq_ok hl ho)
      have HBd := hid (fun k i (hi : i ≤ o.length) => pathTo_bd (seq_ok hl ho) k i (by rw [seqO_len]; exact hi))
      have HEnd := hid (show pathTo (seqO l o) (critF (seqO l o)) o.length = timeO l o by
        have := pathTo_end (seqO l o) _ hcr.lt
        rw [seqO_len] at this
        rw [this, hcr.eq]; rfl)
      have HSL := hid (seqO_len l o)
      have hol7 : o.length ≤ 7 := by rw [hol]; exact hl.len
      clear h g hlg hB hO HE hok hl ho hcr hol
      generalize seqO l o = s at *
      generalize critF s = k at *
      generalize timeO l o = tv at *
      go_enter Try.func4, Try.ntmps4
      go_wp2_with fail
      refine HL.out.mono ?_
      rintro e w1 ⟨rfl, rfl⟩
      go_wp2_with fail
      refine H1.out.mono ?_
      rintro e w1 ⟨hb1, rfl⟩
      have P1 := hid hb1
      clear hb1
      go_wp2_with fail
      refine (H2.out _ P1.out).mono ?_
      rintro e w2 ⟨rfl, rfl⟩
      go_wp2_with fail
      refine (HT.out _ P1.out).mono ?_
      rintro e w2 ⟨hb2, rfl⟩
      have P2 := hid (P1.out.trans (hb2.mono P1.out.size))
      clear hb2
      have HPl := hid (HP.out _ P2.out)
      clear HP
      go_wp2
      go_loop [11, 12] (fun t i => ∃ (j : Nat), j ≤ o.length ∧ i = .int .i64 j ∧ t = .int .i64 (pathTo s k j)) (fun _ i => o.length - (intOf i).toNat)
      case atStart => exact ⟨0, Nat.zero_le _, rfl, rfl⟩
      case round =>
        obtain ⟨j, hj, rfl, rfl⟩ := hrel
        by_cases hlt : j < o.length
        · obtain ⟨n, b, off, b2, off2, hn2, rfl, rfl, c0, c1, c2⟩ := HPl.out j hlt
          have hb1 := HBd.out k j hj
          have hb2 := HS.out j (by rw [HSL.out]; exact hlt)
          have hd : decide (j < o.length) = true := decide_eq_true hlt
          have HN := hid (show pathTo s k (j + 1) = pathTo s k j + ((if j ≤ k then (btAt s j).1 else 0) + (if k ≤ j then (btAt s j).2 else 0)) from rfl)
          clear HPl HS HBd HEnd
          generalize pathTo s k j = v at *
          generalize btAt s j = y at *
          rcases Nat.lt_trichotomy j k with hjk | hjk | hjk
          · have HN2 := hid (show pathTo s k (j + 1) = v + y.1 by rw [HN.out, if_pos (by omega), if_neg (by omega)]; omega)
            have d1 : decide (j ≤ k) = true := decide_eq_true (by omega)
            have d2 : decide (k ≤ j) = false := decide_eq_false (by omega)
            have d3 : (j : Int) < (k : Int) := by omega
            clear HN hjk
            go_wp2
            go_round
            case rel => exact ⟨j + 1, by omega, by go_num, by rw [HN2.out]⟩
            case measure => simp [intOf]; omega
          · subst hjk
            have HN2 := hid (show pathTo s j (j + 1) = v + y.1 + y.2 by rw [HN.out, if_pos (by omega), if_pos (by omega)]; omega)
            clear HN
            go_wp2
            go_round
            case rel => exact ⟨j + 1, by omega, by go_num, by rw [HN2.out]⟩
            case measure => simp [intOf]; omega
          · have HN2 := hid (show pathTo s k (j + 1) = v + y.2 by rw [HN.out, if_neg (by omega), if_pos (by omega)]; omega)
            have d1 : decide (j ≤ k) = false := decide_eq_false (by omega)
            have d2 : decide (k ≤ j) = true := decide_eq_true (by omega)
            have d3 : (k : Int) < (j : Int) := by omega
            clear HN hjk
            go_wp2
            go_round
            case rel => exact ⟨j + 1, by omega, by go_num, by rw [HN2.out]⟩
            case measure => simp [intOf]; omega
        · obtain rfl : j = o.length := by omega
          have hd : decide (o.length < o.length) = false := decide_eq_false (Nat.lt_irrefl _)
          rw [HEnd.out]
          go_wp2_with fail
          refine (known7_any _).mono ?_
          rintro e w9 ⟨hb, rfl⟩
          have P9 := hid (P2.out.trans (hb.mono P2.out.size))
          clear hb
          go_wp2
          go_ret
          exact ⟨P9.out, rfl⟩
    · have hr : (critV l o).2 ≠ 0 := by
        rw [HE.out]
        by_cases hc : chkE l o = 0
        · rw [if_pos hc, if_pos (by by_cases hz : l.length = 0; exact hz; exact absurd ⟨hc, hz⟩ hok)]; decide
        · rw [if_neg hc]; exact hc
      have hr2 : ((critV l o).2 != 0) = true := by simp [hr]
      clear h g hlg hB hO HE hok
      generalize critV l o = p at *
      obtain ⟨p1, p2⟩ := p
      dsimp only at hr hr2
      go_enter Try.func4, Try.ntmps4
      go_wp2_with fail
      refine HL.out.mono ?_
      rintro e w1 ⟨rfl, rfl⟩
      go_wp2_with fail
      refine H1.out.mono ?_
      rintro e w1 ⟨hb1, rfl⟩
      have P1 := hid hb1
      clear hb1
      go_wp2_with fail
      refine (H2.out _ P1.out).mono ?_
      rintro e w2 ⟨rfl, rfl⟩
      go_wp2_with fail
      refine (known7_any _).mono ?_
      rintro e w9 ⟨hb, rfl⟩
      have P9 := hid (P1.out.trans (hb.mono P1.out.size))
      clear hb
      go_wp2
      go_ret
      exact ⟨P9.out, rfl⟩
end Go.Proofs.Yteolckphafblmaa
