/- The walk of the law KitchenReverses. -/
import Derived.Test.YteolckphafblmaaKiLst
import Derived.Test.YteolckphafblmaaKiLg
import Derived.Test.YteolckphafblmaaKiRevR
import Derived.Test.YteolckphafblmaaKiLate
import Derived.Deep.Cut
set_option linter.unusedVariables false
namespace Go.Proofs.Yteolckphafblmaa
open Go.RowKit

theorem allOk_flip (l : List Bt) : allOkB (l.map flip2) = allOkB l := by
  induction l with
  | nil => rfl
  | cons b t ih => simp only [List.map_cons, allOkB, ih]; congr 1; unfold okBt flip2; exact Bool.and_comm _ _
theorem valE_flip (l : List Bt) : valE (l.map flip2) = valE l := by unfold valE; rw [List.length_map, allOk_flip]
theorem ordB_rev (o : List Int) (n : Nat) : ordB o.reverse n = ordB o n := Bool.eq_iff_iff.2 (by rw [ordB_iff, ordB_iff]; exact ord_rev o n)
theorem timeV_flip (l : List Bt) (o : List Int) : timeV (l.map flip2) o.reverse = timeV l o := by
  have hc : chkE (l.map flip2) o.reverse = chkE l o := by unfold chkE; rw [valE_flip, List.length_map, ordB_rev]
  unfold timeV
  rw [hc]
  by_cases h : chkE l o = 0
  · rw [if_pos h, if_pos h, time_rev (chkE_ok h).1.NN (chkE_ok h).2]
  · rw [if_neg h, if_neg h]
theorem take_rev (o : List Int) (j k : Nat) (h : j + 1 + k = o.length) : o.reverse.take (k + 1) = o.reverse.take k ++ [oAt o j] := by
  have hk : k < o.reverse.length := by rw [List.length_reverse]; omega
  rw [List.take_add_one, List.getElem?_eq_getElem hk, List.getElem_reverse]
  unfold oAt
  rw [List.getElem?_eq_getElem (show j < o.length by omega)]
  have : o.length - 1 - k = j := by omega
  simp [this]

set_option maxRecDepth 100000 in
set_option maxHeartbeats 4000000 in
theorem kitchenReverses_walk (a A : Option Addr) (l : List Bt) (o : List Int) (cap oc : Nat) (w : World) (h0 : l.length ≤ 9223372036854775807) (h : l.length ≤ 140737488355328 → Bts w a l) (g0 : o.length ≤ 9223372036854775807) (g : o.length ≤ 140737488355328 → Ints w A o) :
  Calls Try.prog 9 #[.slice a l.length cap, .slice A o.length oc] w (BoolR w true) := by
  obtain ⟨i0, hinf, hz0, hz1, hz2⟩ := info_parts batch_info
  have HL := hid (long7_any a A l.length o.length cap oc w h0 g0)
  cases hlg : longB l.length o.length with
  | true =>
    rw [hlg] at HL
    clear h g hlg hinf hz0 hz1 hz2
    go_enter Try.func9, Try.ntmps9
    go_wp2_with fail
    refine (HL.out).mono ?_
    rintro e w' ⟨rfl, rfl⟩
    go_wp2_with fail
    refine (known7_any _).mono ?_
    rintro e w99 ⟨hb, rfl⟩
    have P99 := hid hb
    clear hb
    go_wp2
    go_ret
    exact ⟨P99.out, rfl⟩
  | false =>
    rw [hlg] at HL
    obtain ⟨hn, hm⟩ := longB_no hlg
    have HB := hid (h (by omega))
    have HO := hid (g (by omega))
    clear h g hlg
    obtain ⟨l2, hl2⟩ : ∃ l2, l2 = l.map flip2 := ⟨_, rfl⟩
    have HL2 := hid hl2
    clear hl2
    go_enter Try.func9, Try.ntmps9
    go_wp2_with fail
    refine (HL.out).mono ?_
    rintro e w' ⟨rfl, rfl⟩
    clear HL
    go_upto_region 3 with (fail)
    go_cut [5] from 24 (fun s5 wx => ∃ A5 cf, s5 = .slice A5 l.length cf ∧ Hid (Bts wx A5 l) ∧ Hid (Below w.heap.size w wx))
    case first =>
      by_cases e0 : l = []
      · subst e0
        have p6 := hid ((Below.refl w.heap.size w).alloc (Nat.le_refl _) (.cells #[] 40))
        clear hinf hz0 hz1 hz2 HL2
        cases a with
        | none =>
          go_wp2_with fail
          go_meet
          case rel => exact ⟨_, _, rfl, ⟨Nat.zero_le _, .inl rfl, fun x hx => by cases hx⟩, p6⟩
        | some ad =>
          go_wp2_with fail
          go_meet
          case rel => exact ⟨_, _, rfl, ⟨Nat.zero_le _, .inl rfl, fun x hx => by cases hx⟩, p6⟩
      · obtain ⟨ad, rfl⟩ : ∃ ad, a = some ad := by
          rcases HB.out.at_ with e | ⟨b, off, e, _⟩
          · exact absurd e e0
          · exact ⟨_, e⟩
        have HNs := hid (bts_news (HB.out.below ((Below.refl w.heap.size w).alloc (Nat.le_refl _) (.cells #[] 40))))
        have HLn := hid (btC_len l)
        have HOn := hid (btC_one l)
        have HE := hid (World.ownsRow_lit (base := w.heap.size) (e := 40) (size := 2) w #[] 0 (Nat.le_refl _) (by decide) rfl)
        go_wp2_with (at_builtin; (refine wpList_append_src rfl _ _ 22 rfl w.heap.size 40 i0 (.agg #[.int .i64 0, .int .i64 0]) 2 16 Try.underlying22 hinf hz0 hz1 hz2 rfl (by decide) _ 0 [] rfl HE.out _ _ _ (btC l) rfl HLn.out HNs.out HOn.out (by unfold maxLen; omega) (by omega) (by simp) ?_))
        intro v6 w6 hown6 hgrow6
        have p6 : Below w.heap.size w w6 := ((Below.refl w.heap.size w).alloc (Nat.le_refl _) _).grown hgrow6 (by simp) (own_row_ge (Nat.le_refl _))
        have ho : OwnB w6 w.heap.size v6 l := by unfold OwnB; simpa using hown6
        obtain ⟨A5, cf, rfl, hb5⟩ := ho.bts (by omega) HB.out.bd
        have hb5' := hid hb5
        have p6' := hid p6
        clear hb5 p6 ho hown6 hgrow6 HE HOn HLn HNs hinf hz0 hz1 hz2 HL2
        go_wp2_with fail
        go_meet
        case rel => exact ⟨A5, cf, rfl, hb5', p6'⟩
    case rest =>
      obtain ⟨A5, cf, rfl, HB5, P5⟩ := hcut
      clear hinf hz0 hz1 hz2
      by_cases hv : valE l = 0
      · have HV := hid hv
        have R1 : Hid (Calls Try.prog 34 #[.slice A5 l.length cf] wc (fun en w' => Below wc.heap.size wc w' ∧ ∃ A cf, en = .returned (.tuple #[.slice A l2.length cf, .int .i64 0]) ∧ Bts w' A l2)) := hid (by rw [HL2.out]; exact kReverse_ok A5 l cf wc HB5.out hv)
        have R2 : Hid (∀ W, Below w.heap.size w W → Calls Try.prog 35 #[.slice a l.length cap] W (fun en w' => Below W.heap.size W w' ∧ ∃ A cf, en = .returned (.tuple #[.slice A l2.length cf, .int .i64 0]) ∧ Bts w' A l2)) := hid (fun W hb => by rw [HL2.out]; exact krReverse_ok a l cap W (HB.out.below hb) hv)
        clear hv
        go_wp2_with fail
        refine (R1.out).mono ?_
        rintro e w6 ⟨hb6, A6, c6, rfl, hB6⟩
        have P6 := hid (P5.out.trans (hb6.mono P5.out.size))
        have HB56 := hid (HB5.out.below hb6)
        have HB6 := hid hB6
        clear hb6 hB6 R1
        go_wp2_with fail
        refine (R2.out _ P6.out).mono ?_
        rintro e w7 ⟨hb7, A8, c8, rfl, hB8⟩
        have P7 := hid (P6.out.trans (hb7.mono P6.out.size))
        have HB57 := hid (HB56.out.below hb7)
        have HB67 := hid (HB6.out.below hb7)
        have HB8 := hid hB8
        clear hb7 hB8 R2
        go_wp2_with fail
        refine (same7_self A6 A8 l2 c6 c8 _ HB67.out HB8.out).mono ?_
        rintro e w8 ⟨⟨n8, hw8⟩, rfl⟩
        have hb8 : Below w7.heap.size w7 w8 := by rw [hw8]; exact below_drewN (Below.refl _ _) n8
        have P8 := hid (P7.out.trans (hb8.mono P7.out.size))
        have HB58 := hid (HB57.out.below hb8)
        have HB68 := hid (HB67.out.below hb8)
        clear hb8 hw8
        go_wp2_with fail
        refine (same7_self A5 a l cf cap _ HB58.out (HB.out.below P8.out)).mono ?_
        rintro e w9 ⟨⟨n9, hw9⟩, rfl⟩
        have hb9 : Below w8.heap.size w8 w9 := by rw [hw9]; exact below_drewN (Below.refl _ _) n9
        have P9 := hid (P8.out.trans (hb9.mono P8.out.size))
        have HB69 := hid (HB68.out.below hb9)
        clear hb9 hw9
        go_wp2_with fail
        refine (kLeast_ok a l cap _ (HB.out.below P9.out) HV.out).mono ?_
        rintro e w10 ⟨hb10, m, hm1, rfl⟩
        have P10 := hid (P9.out.trans (hb10.mono P9.out.size))
        have HBA := hid (HB69.out.below hb10)
        have HM1 := hid hm1
        clear hb10 hm1
        go_wp2_with fail
        refine (kLeast_ok A6 l2 c6 _ HBA.out (by rw [HL2.out, valE_flip]; exact HV.out)).mono ?_
        rintro e w11 ⟨hb11, m2, hm2, rfl⟩
        have P11 := hid (P10.out.trans (hb11.mono P10.out.size))
        have HBB := hid (HBA.out.below hb11)
        obtain rfl : m2 = m := by
          rw [HL2.out] at hm2
          exact hm2.unique (least_flip (valE_ok HV.out).NN HM1.out)
        clear hb11 hm2
        have e1 : IntKind.i64.wrap ((o.length : Int) - 1) = (o.length : Int) - 1 := IntWalk.i64_in _ (by omega)
        obtain ⟨i1, hinf, hz0, hz1, hz2⟩ := info_parts int_info
        go_wp2_with fail
        go_loopw [14, 15] (fun v i wr => ∃ k j : Nat, j + k = o.length ∧ i = .int .i64 ((j : Int) - 1) ∧ Hid (Own wr w11.heap.size v (o.reverse.take k)) ∧ Hid (Below w11.heap.size w11 wr)) (fun _ i _ => (intOf i + 1).toNat)
        case atStart => exact ⟨0, o.length, rfl, rfl, Own.nil _ _, Below.refl _ _⟩
        case round =>
          obtain ⟨k, j, hkj, rfl, HOw, HW⟩ := hrel
          cases j with
          | succ j =>
            rw [show ((j + 1 : Nat) : Int) - 1 = (j : Int) by omega]
            have HT := hid (take_rev o j k (by omega))
            rcases HO.out.at_ with e | ⟨b, off, rfl, hc⟩
            · rw [e] at hkj; simp at hkj
            have c0 : w.cell? ⟨b, off + j, none⟩ = some (.int .i64 (oAt o j)) := hc j (by omega)
            have lt0 := cell_lt c0
            dsimp only at lt0
            have PW := hid (P11.out.trans (HW.out.mono P11.out.size))
            rw [← PW.out.cell (p := ⟨b, off + j, none⟩) lt0] at c0
            have hl2 : (o.reverse.take k).length = k := by rw [List.length_take, List.length_reverse]; omega
            have HO2 := HOw.out
            unfold Own at HO2
            rw [hl2] at HO2
            have i0 : (0 : Int) ≤ (j : Int) := by omega
            have i2 : (j : Int) < (o.length : Int) := by omega
            have s1 : IntKind.i64.wrap ((j : Int) - 1) = (j : Int) - 1 := IntWalk.i64_in _ (by omega)
            have hsz := HW.out.size
            obtain ⟨T, hT⟩ : ∃ T, o.reverse.take k = T := ⟨_, rfl⟩
            rw [hT] at HT HO2 hl2
            have HLk := hid hl2
            have HKJ := hid hkj
            clear hc hT hl2 HOw
            generalize oAt o j = n at *
            go_wp2_with (at_builtin; refine wpList_append_own _ rfl _ _ 23 rfl w11.heap.size 3 i1 (.int .i64 0) 1 8 Try.underlying23 hinf hz0 hz1 hz2 rfl (by decide) _ _ _ rfl (World.ownsRow.alloc HO2 _) ⟨wr.heap.size, 0, none⟩ 1 1 [.int .i64 n] rfl rfl (news_at rfl #[.int .i64 n] 3) (by simp [Value.oneCell']) (by unfold maxLen; omega) (by omega) (by rw [World.size_alloc]; omega) ?_)
            intro v' w12 hown2 hgrow _
            have p12 : Below w11.heap.size wr w12 := (((Below.refl _ _).alloc hsz _)).grown hgrow (by rw [World.size_alloc]; omega) (fun q hq => (HO2.lt q hq).1)
            have HO6 : Hid (Own w12 w11.heap.size v' (o.reverse.take (k + 1))) := by
              unfold Hid Own
              rw [HT.out, List.length_append, HLk.out]
              simpa using hown2
            have W6 := hid (HW.out.trans (p12.mono (Nat.le_refl _)))
            clear hgrow hown2 p12 HO2 HT HLk
            go_wp2
            go_roundw
            case rel => exact ⟨k + 1, j, by have := HKJ.out; omega, by go_num, HO6, W6⟩
            case measure => simp [intOf]
          | zero =>
            obtain rfl : k = o.length := by omega
            have hO3 := HOw.out
            rw [List.take_of_length_le (by rw [List.length_reverse]; exact Nat.le_refl _)] at hO3
            obtain ⟨o2, ho2⟩ : ∃ o2, o2 = o.reverse := ⟨_, rfl⟩
            rw [← ho2] at hO3
            have HO2 := hid ho2
            obtain ⟨AR, cr, rfl, hir⟩ := hO3.ints (by rw [ho2, List.length_reverse]; omega) (by rw [ho2]; intro x hx; exact HO.out.bd x (List.mem_reverse.1 hx))
            have PW := hid (P11.out.trans (HW.out.mono P11.out.size))
            have HIR := hid hir
            have HBW := hid (HBB.out.below HW.out)
            have HTV := hid (show timeV l2 o2 = timeV l o by rw [HL2.out, HO2.out]; exact timeV_flip l o)
            clear hO3 hir ho2 hinf hz0 hz1 hz2
            go_wp2_with fail
            refine (kTime_any a A l o cap oc _ (HB.out.below PW.out) (HO.out.below PW.out)).mono ?_
            rintro e w13 ⟨hb13, rfl⟩
            have P13 := hid (PW.out.trans (hb13.mono PW.out.size))
            have H14 := kTime_any A6 AR l2 o2 c6 cr w13 (HBW.out.below hb13) (HIR.out.below hb13)
            rw [HTV.out] at H14
            have H14' := hid H14
            clear hb13 H14 HTV
            generalize timeV l o = tv at *
            obtain ⟨t1, t2⟩ := tv
            try dsimp only at H14'
            go_wp2_with fail
            refine (H14'.out).mono ?_
            rintro e w14 ⟨hb14, rfl⟩
            have P14 := hid (P13.out.trans (hb14.mono P13.out.size))
            clear hb14 H14'
            go_wp2_with fail
            refine (known7_any _).mono ?_
            rintro e w99 ⟨hb, rfl⟩
            have P99 := hid (P14.out.trans (hb.mono P14.out.size))
            clear hb
            go_wp2
            go_ret
            exact ⟨P99.out, rfl⟩
      · have hv4 : (valE l != 0) = true := by simp [hv]
        have R1 := hid (kReverse_bad A5 l cf wc HB5.out hv)
        have R2 := hid (fun W (hb : Below w.heap.size w W) => krReverse_bad a l cap W (HB.out.below hb) hv)
        have HS0 := hid (fun (W : World) => same7_self none none [] 0 0 W ⟨Nat.zero_le _, .inl rfl, fun x hx => by cases hx⟩ ⟨Nat.zero_le _, .inl rfl, fun x hx => by cases hx⟩)
        clear hv
        generalize valE l = v at *
        go_wp2_with fail
        refine (R1.out).mono ?_
        rintro e w6 ⟨hb6, rfl⟩
        have P6 := hid (P5.out.trans (hb6.mono P5.out.size))
        have HB56 := hid (HB5.out.below hb6)
        clear hb6 R1
        go_wp2_with fail
        refine (R2.out _ P6.out).mono ?_
        rintro e w7 ⟨hb7, rfl⟩
        have P7 := hid (P6.out.trans (hb7.mono P6.out.size))
        have HB57 := hid (HB56.out.below hb7)
        clear hb7 R2
        go_wp2_with fail
        refine (HS0.out _).mono ?_
        rintro e w8 ⟨⟨n8, hw8⟩, rfl⟩
        have hb8 : Below w7.heap.size w7 w8 := by rw [hw8]; exact below_drewN (Below.refl _ _) n8
        have P8 := hid (P7.out.trans (hb8.mono P7.out.size))
        have HB58 := hid (HB57.out.below hb8)
        clear hb8 hw8
        go_wp2_with fail
        refine (same7_self A5 a l cf cap _ HB58.out (HB.out.below P8.out)).mono ?_
        rintro e w9 ⟨⟨n9, hw9⟩, rfl⟩
        have hb9 : Below w8.heap.size w8 w9 := by rw [hw9]; exact below_drewN (Below.refl _ _) n9
        have P9 := hid (P8.out.trans (hb9.mono P8.out.size))
        clear hb9 hw9
        go_wp2_with fail
        refine (known7_any _).mono ?_
        rintro e w99 ⟨hb, rfl⟩
        have P99 := hid (P9.out.trans (hb.mono P9.out.size))
        clear hb
        go_wp2
        go_ret
        exact ⟨P99.out, rfl⟩
end Go.Proofs.Yteolckphafblmaa
