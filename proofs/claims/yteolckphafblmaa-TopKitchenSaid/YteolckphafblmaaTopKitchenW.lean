/- The walk of the law TopKitchen. -/
import Derived.Test.YteolckphafblmaaKiLst
import Derived.Test.YteolckphafblmaaKiSo
import Derived.Test.YteolckphafblmaaKiLg
import Derived.Test.YteolckphafblmaaKiI
import Derived.Test.YteolckphafblmaaKiBd
set_option linter.unusedVariables false
namespace Go.Proofs.Yteolckphafblmaa
open Go.RowKit

theorem least_one {m : Int} (h : IsLeast [(2, 3)] m) : m = 5 := by
  obtain ⟨s, hs, he⟩ := h.got
  rw [List.perm_singleton] at hs
  subst hs
  rw [← he]; rfl
set_option maxRecDepth 100000 in
set_option maxHeartbeats 8000000 in
theorem topKitchen_walk (a A : Option Addr) (l : List Bt) (o : List Int) (cap oc : Nat) (w : World) (h0 : l.length ≤ 9223372036854775807) (h : l.length ≤ 140737488355328 → Bts w a l) (g0 : o.length ≤ 9223372036854775807) (g : o.length ≤ 140737488355328 → Ints w A o) :
  Calls Try.prog 12 #[.slice a l.length cap, .slice A o.length oc] w (BoolR w true) := by
  have PA := hid ((Below.refl w.heap.size w).alloc (Nat.le_refl _) (.cells #[.int .i64 2, .int .i64 3] 40))
  have HK := hid (kLeast_ok (some ⟨w.heap.size, 0, none⟩) [(2, 3)] 1 (w.alloc (.cells #[.int .i64 2, .int .i64 3] 40)) ⟨by simp, .inr ⟨w.heap.size, 0, rfl, fun i hi => by
    have : i = 0 := by simp at hi; omega
    subst this
    go_simp
    exact ⟨rfl, rfl⟩⟩, by simp⟩ (by decide +kernel))
  by_cases hn : 100 < l.length
  · have hn' : (100 : Int) < (l.length : Int) := by omega
    clear h g hn
    go_enter Try.func12, Try.ntmps12
    go_wp2_with fail
    refine HK.out.mono ?_
    rintro e w1 ⟨hb1, m0, hm0, rfl⟩
    have P1 := hid (PA.out.trans (hb1.mono PA.out.size))
    have hm5 := least_one hm0
    subst hm5
    clear hb1 hm0
    go_wp2
    go_ret
    exact ⟨P1.out, rfl⟩
  have hn' : (l.length : Int) ≤ 100 := by omega
  by_cases hm : 100 < o.length
  · have hm' : (100 : Int) < (o.length : Int) := by omega
    clear h g hn hm
    go_enter Try.func12, Try.ntmps12
    go_wp2_with fail
    refine HK.out.mono ?_
    rintro e w1 ⟨hb1, m0, hm0, rfl⟩
    have P1 := hid (PA.out.trans (hb1.mono PA.out.size))
    have hm5 := least_one hm0
    subst hm5
    clear hb1 hm0
    go_wp2
    go_ret
    exact ⟨P1.out, rfl⟩
  have hm' : (o.length : Int) ≤ 100 := by omega
  have hB := h (by omega)
  have hO := g (by omega)
  clear h g hn hm
  have HT := hid (fun W (hb : Below w.heap.size w W) => kTime_any a A l o cap oc W (hB.below hb) (hO.below hb))
  have HBd := hid (fun W (hb : Below w.heap.size w W) => kBound_any a l cap W (hB.below hb))
  have HE := hid (show timeV l o = if chkE l o = 0 then (timeO l o, 0) else (0, chkE l o) from rfl)
  by_cases hv : valE l = 0
  case neg =>
    have H1 := hid (fun W (hb : Below w.heap.size w W) => kLeast_bad a l cap W (hB.below hb) hv)
    have H2 := hid (fun W (hb : Below w.heap.size w W) => kBestP_bad a l cap W (hB.below hb) hv)
    have hc : chkE l o = valE l := by unfold chkE; rw [if_neg hv]
    rw [show bndV l = (0, valE l) from if_neg hv] at HBd
    rw [HE.out, if_neg (by rw [hc]; exact hv), hc] at HT
    have h1 : (valE l != 0) = true := by simp [hv]
    clear hB hO HE hv hc
    generalize valE l = ve at *
    go_enter Try.func12, Try.ntmps12
    go_wp2_with fail
    refine HK.out.mono ?_
    rintro e w1 ⟨hb1, m0, hm0, rfl⟩
    have P1 := hid (PA.out.trans (hb1.mono PA.out.size))
    have hm5 := least_one hm0
    subst hm5
    clear hb1 hm0
    go_wp2_with fail
    refine (H1.out _ P1.out).mono ?_
    rintro e w2 ⟨hb2, rfl⟩
    have P2 := hid (P1.out.trans (hb2.mono P1.out.size))
    clear hb2
    go_wp2_with fail
    refine (H2.out _ P2.out).mono ?_
    rintro e w3 ⟨hb3, rfl⟩
    have P3 := hid (P2.out.trans (hb3.mono P2.out.size))
    clear hb3
    go_wp2_with fail
    refine (HBd.out _ P3.out).mono ?_
    rintro e w4 ⟨hb4, rfl⟩
    have P4 := hid (P3.out.trans (hb4.mono P3.out.size))
    clear hb4
    go_wp2_with fail
    refine (HT.out _ P4.out).mono ?_
    rintro e w5 ⟨hb5, rfl⟩
    have P5 := hid (P4.out.trans (hb5.mono P4.out.size))
    clear hb5
    go_wp2
    go_ret
    exact ⟨P5.out, rfl⟩
  have H1 := hid (fun W (hb : Below w.heap.size w W) => kLeast_ok a l cap W (hB.below hb) hv)
  have H2 := hid (fun W (hb : Below w.heap.size w W) => kBestP_ok a l cap W (hB.below hb) hv)
  have hl := valE_ok hv
  rw [show bndV l = (boundV l, 0) from if_pos hv] at HBd
  have HT2 := hid (fun F f cf W (hb : Below w.heap.size w W) (hi : Ints W F f) (hof : IsOrd f l.length) => (show Calls Try.prog 17 #[.slice a l.length cap, .slice F f.length cf] W (PairK W (timeO l f, 0)) from by
    have := kTime_any a F l f cap cf W (hB.below hb) hi
    rwa [show timeV l f = (timeO l f, 0) from if_pos (by unfold chkE; rw [if_pos hv, if_pos ((ordB_iff _ _).2 hof)])] at this))
  have HBle := hid (fun m (hm : IsLeast l m) => (show boundV l ≤ m from by
    obtain ⟨s, hs, he⟩ := hm.got
    rw [← he]
    exact bound_le hl.NN s hs))
  have HUn := hid (fun m f (hm : IsLeast l m) (hf : IsLeast l (timeO l f)) => hf.unique hm)
  have hl7 := hl.len
  generalize boundV l = bv at *
  by_cases hc : chkE l o = 0
  case neg =>
    have hc1 : chkE l o = 1 := by
      unfold chkE at hc ⊢
      rw [if_pos hv] at hc ⊢
      by_cases e : ordB o l.length = true
      · rw [if_pos e] at hc; exact absurd rfl hc
      · rw [if_neg e]
    rw [HE.out, if_neg hc, hc1] at HT
    clear hB hO HE hv hc hc1 hl
    go_enter Try.func12, Try.ntmps12
    go_wp2_with fail
    refine HK.out.mono ?_
    rintro e w1 ⟨hb1, m0, hm0, rfl⟩
    have P1 := hid (PA.out.trans (hb1.mono PA.out.size))
    have hm5 := least_one hm0
    subst hm5
    clear hb1 hm0
    go_wp2_with fail
    refine (H1.out _ P1.out).mono ?_
    rintro e w2 ⟨hb2, m, hm2, rfl⟩
    have P2 := hid (P1.out.trans (hb2.mono P1.out.size))
    have HM := hid hm2
    clear hm2
    clear hb2
    go_wp2_with fail
    refine (H2.out _ P2.out).mono ?_
    rintro e w3 ⟨hb3, F, cf, f, rfl, hi3, ho3, hm3⟩
    have P3 := hid (P2.out.trans (hb3.mono P2.out.size))
    have HI3 := hid hi3
    have HO3 := hid ho3
    have hfl := hi3.len
    have hte := HUn.out m f HM.out hm3
    have hble := HBle.out m HM.out
    clear hi3 ho3 hm3
    clear hb3
    go_wp2_with fail
    refine (HBd.out _ P3.out).mono ?_
    rintro e w4 ⟨hb4, rfl⟩
    have P4 := hid (P3.out.trans (hb4.mono P3.out.size))
    have HI4 := hid (HI3.out.below hb4)
    clear hb4
    go_wp2_with fail
    refine (HT2.out F f cf _ P4.out HI4.out HO3.out).mono ?_
    rintro e w5 ⟨hb5, rfl⟩
    have P5 := hid (P4.out.trans (hb5.mono P4.out.size))
    clear hb5
    rw [hte]
    have HTE := hid hte
    clear hte
    go_wp2_with fail
    refine (HT.out _ P5.out).mono ?_
    rintro e w6 ⟨hb6, rfl⟩
    have P6 := hid (P5.out.trans (hb6.mono P5.out.size))
    clear hb6
    go_wp2
    go_ret
    exact ⟨P6.out, rfl⟩
  obtain ⟨_, ho⟩ := chkE_ok hc
  rw [HE.out, if_pos hc] at HT
  have HR := hid (fun W (hb : Below w.heap.size w W) => kRunP_ok a A l o cap oc W (hB.below hb) (hO.below hb) hc)
  have HI := hid (fun W (hb : Below w.heap.size w W) => kIdle_any a A l o cap oc W (hB.below hb) (hO.below hb))
  rw [show idleV l o = (idleTo (seqO l o) o.length, 0) from if_pos hc] at HI
  have HS := hid (fun W (hb : Below w.heap.size w W) => kSorted_any a A l o cap oc W (hB.below hb) (hO.below hb))
  rw [show sortV l o = (sortedO l o, 0) from if_pos hc] at HS
  have HCr := hid (fun W (hb : Below w.heap.size w W) => kCritical_any a A l o cap oc W (hB.below hb) (hO.below hb))
  have hol := ho.len
  have h12a : (o.length : Int) ≤ (l.length : Int) := by omega
  have h12b : (l.length : Int) ≤ (o.length : Int) := by omega
  have h12c : ((o.length : Int) != (l.length : Int)) = false := by simp; omega
  have HLow := hid (fun m (hm : IsLeast l m) => hm.low o ho)
  have HSo := hid (fun m (hm : IsLeast l m) (hs : sortedO l o = true) => sorted_least ho hs hm)
  have HTo := hid (timeO_to l o)
  have hw := idle_work (seqO l o) o.length
  have hpk : packSum (seqO l o) o.length = packSum l l.length := by
    rw [← totP_seq ho, totP_end, seqO_len]
  rw [hpk, ← timeO_to] at hw
  have hib := idle_bd (seq_ok hl ho) o.length (by rw [seqO_len]; exact Nat.le_refl _)
  have hpb := packSum_bd hl.at_ l.length (Nat.le_refl _)
  have HCV := hid (show critV l o = if chkE l o = 0 then (if l.length = 0 then (0, 5) else (((critF (seqO l o) : Nat) : Int), 0)) else (0, chkE l o) from rfl)
  have HCk := hid (fun (hz : 0 < l.length) => (show critF (seqO l o) < o.length ∧ max (cookTo (seqO l o) (critF (seqO l o) + 1)) (packTo (seqO l o) (critF (seqO l o))) = cookTo (seqO l o) (critF (seqO l o) + 1) from by
    have hcr := critF_crit (s := seqO l o) (NN_of (seq_ok hl ho)) (by rw [seqO_len, hol]; omega)
    exact ⟨by have := hcr.lt; rw [seqO_len] at this; exact this, crit_pack (NN_of (seq_ok hl ho)) hcr⟩))
  have HBt := hid (fun W (hb : Below w.heap.size w W) => hB.below hb)
  have HL := hid hl
  have HW := hid hw
  have HOL := hid hol
  have HC0 := hid hc
  clear hB hO HE hv hc hl ho hw hpk hol
  generalize timeO l o = tv at *
  generalize idleTo (seqO l o) o.length = iv at *
  generalize seqO l o = s at *
  cases hso : sortedO l o with
  | false =>
    rw [hso] at HS
    clear HSo hso
    go_enter Try.func12, Try.ntmps12
    go_wp2_with fail
    refine HK.out.mono ?_
    rintro e w1 ⟨hb1, m0, hm0, rfl⟩
    have P1 := hid (PA.out.trans (hb1.mono PA.out.size))
    have hm5 := least_one hm0
    subst hm5
    clear hb1 hm0
    go_wp2_with fail
    refine (H1.out _ P1.out).mono ?_
    rintro e w2 ⟨hb2, m, hm2, rfl⟩
    have P2 := hid (P1.out.trans (hb2.mono P1.out.size))
    have HM := hid hm2
    clear hm2
    clear hb2
    go_wp2_with fail
    refine (H2.out _ P2.out).mono ?_
    rintro e w3 ⟨hb3, F, cf, f, rfl, hi3, ho3, hm3⟩
    have P3 := hid (P2.out.trans (hb3.mono P2.out.size))
    have HI3 := hid hi3
    have HO3 := hid ho3
    have hfl := hi3.len
    have hte := HUn.out m f HM.out hm3
    have hble := HBle.out m HM.out
    clear hi3 ho3 hm3
    clear hb3
    go_wp2_with fail
    refine (HBd.out _ P3.out).mono ?_
    rintro e w4 ⟨hb4, rfl⟩
    have P4 := hid (P3.out.trans (hb4.mono P3.out.size))
    have HI4 := hid (HI3.out.below hb4)
    clear hb4
    go_wp2_with fail
    refine (HT2.out F f cf _ P4.out HI4.out HO3.out).mono ?_
    rintro e w5 ⟨hb5, rfl⟩
    have P5 := hid (P4.out.trans (hb5.mono P4.out.size))
    clear hb5
    rw [hte]
    have HTE := hid hte
    clear hte
    go_wp2_with fail
    refine (HT.out _ P5.out).mono ?_
    rintro e w6 ⟨hb6, rfl⟩
    have P6 := hid (P5.out.trans (hb6.mono P5.out.size))
    clear hb6
    go_wp2_with fail
    refine (HR.out _ P6.out).mono ?_
    rintro e w7 ⟨hb7, A7, c7, rfl, hs7⟩
    have P7 := hid (P6.out.trans (hb7.mono P6.out.size))
    have HS7 := hid hs7
    clear hs7
    clear hb7
    go_wp2_with fail
    refine (HI.out _ P7.out).mono ?_
    rintro e w8 ⟨hb8, rfl⟩
    have P8 := hid (P7.out.trans (hb8.mono P7.out.size))
    have HS8 := hid (HS7.out.below hb8)
    clear hb8
    go_wp2_with fail
    refine (HS.out _ P8.out).mono ?_
    rintro e w9 ⟨hb9, rfl⟩
    have P9 := hid (P8.out.trans (hb9.mono P8.out.size))
    have HS9 := hid (HS8.out.below hb9)
    clear hb9
    have hlow := HLow.out m HM.out
    clear HT HT2 HBd H1 H2 HK HR HI HS HUn HBle HLow
    go_wp2
    go_loopw [22, 23] (fun t i wr => ∃ (j : Nat), j ≤ l.length ∧ i = .int .i64 j ∧ t = .int .i64 (packSum l j) ∧ Hid (wr = w9)) (fun _ i _ => l.length - (intOf i).toNat)
    case atStart => exact ⟨0, Nat.zero_le _, rfl, rfl, rfl⟩
    case round =>
      obtain ⟨j, hj, rfl, rfl, HWr⟩ := hrel
      have hps := packSum_bd HL.out.at_ j hj
      by_cases hlt : j < l.length
      · have hBr := HBt.out w9 P9.out
        rw [← HWr.out] at hBr
        rcases hBr.at_ with e | ⟨b, off, rfl, hcl⟩
        · rw [e] at hlt; simp at hlt
        obtain ⟨c0, c1⟩ := hcl j hlt
        have hbd := HL.out.at_ j hlt
        have hd : decide (j < l.length) = true := decide_eq_true hlt
        have HN := hid (show packSum l (j + 1) = packSum l j + (btAt l j).2 from rfl)
        clear hcl hBr
        generalize packSum l j = v at *
        generalize btAt l j = y at *
        go_wp2
        go_roundw
        case rel => exact ⟨j + 1, by omega, by go_num, by rw [HN.out], HWr⟩
        case measure => simp [intOf]; omega
      · obtain rfl : j = l.length := by omega
        have hd : decide (l.length < l.length) = false := decide_eq_false (Nat.lt_irrefl _)
        have hwr := HWr.out
        subst hwr
        have hw2 := HW.out
        generalize packSum l l.length = pv at *
        by_cases hz : l.length = 0
        · have hz1 : (o.length : Int) = 0 := by omega
          have htz : tv = 0 := by have := HTo.out; rw [HOL.out, hz] at this; exact this
          have hpz : pv = 0 := by omega
          have hiz : iv = 0 := by omega
          subst htz hiz
          clear hz hpz hw2
          go_wp2
          go_ret
          exact ⟨P9.out, rfl⟩
        · obtain ⟨hk1, hk2⟩ := HCk.out (by omega)
          rw [show critV l o = (((critF s : Nat) : Int), 0) by rw [HCV.out, if_pos HC0.out, if_neg hz]] at HCr
          have HKm := hid hk2
          have hto := HTo.out
          clear hk2 HCk HCV
          generalize hkk : critF s = k at *
          clear hkk
          have hz1 : (o.length : Int) ≠ 0 := by omega
          have hz2 : ((o.length : Int) == 0) = false := by rw [beq_eq_false_iff_ne]; omega
          have HTP := hid hto
          have HW2 := hid hw2
          clear hto hw2 hz
          go_wp2_with fail
          refine (HCr.out _ P9.out).mono ?_
          rintro e w10 ⟨hb10, rfl⟩
          have P10 := hid (P9.out.trans (hb10.mono P9.out.size))
          have HSx := HS9.out.below hb10
          clear hb10
          rcases HSx.at_ with e | ⟨b, off, rfl, hcs⟩
          · rw [e] at hk1; simp at hk1
          obtain ⟨q, hq⟩ : ∃ q, o.length = q + 1 := ⟨o.length - 1, by omega⟩
          obtain ⟨_, _, _, _, d4⟩ := hcs q (by omega)
          rw [← hq, ← HTP.out] at d4
          obtain ⟨_, _, f2, f3, _⟩ := hcs k hk1
          rw [HKm.out] at f3
          generalize cookTo s (k + 1) = ck at *
          have hiw : iv + pv = tv := HW2.out
          have j1 : (iv + pv == tv) = true := by simp [hiw]
          have j2 : (iv + pv != tv) = false := by simp [hiw]
          have HQ := hid hq
          have hk3 : (k : Int) < (o.length : Int) := by omega
          have hk0 : (0 : Int) ≤ (k : Int) := by omega
          have hq1 : (o.length : Int) - 1 = (q : Int) := by omega
          have hq2 : (q : Int) < (o.length : Int) := by omega
          have hq3 : (0 : Int) ≤ (q : Int) := by omega
          clear hcs HSx hiw hq
          go_wp2_with fail
          go_quiet (fail)
          go_wp2
          go_ret
          exact ⟨below_drewN P10.out _, rfl⟩
  | true =>
    rw [hso] at HS
    go_enter Try.func12, Try.ntmps12
    go_wp2_with fail
    refine HK.out.mono ?_
    rintro e w1 ⟨hb1, m0, hm0, rfl⟩
    have P1 := hid (PA.out.trans (hb1.mono PA.out.size))
    have hm5 := least_one hm0
    subst hm5
    clear hb1 hm0
    go_wp2_with fail
    refine (H1.out _ P1.out).mono ?_
    rintro e w2 ⟨hb2, m, hm2, rfl⟩
    have P2 := hid (P1.out.trans (hb2.mono P1.out.size))
    have HM := hid hm2
    clear hm2
    clear hb2
    go_wp2_with fail
    refine (H2.out _ P2.out).mono ?_
    rintro e w3 ⟨hb3, F, cf, f, rfl, hi3, ho3, hm3⟩
    have P3 := hid (P2.out.trans (hb3.mono P2.out.size))
    have HI3 := hid hi3
    have HO3 := hid ho3
    have hfl := hi3.len
    have hte := HUn.out m f HM.out hm3
    have hble := HBle.out m HM.out
    clear hi3 ho3 hm3
    clear hb3
    go_wp2_with fail
    refine (HBd.out _ P3.out).mono ?_
    rintro e w4 ⟨hb4, rfl⟩
    have P4 := hid (P3.out.trans (hb4.mono P3.out.size))
    have HI4 := hid (HI3.out.below hb4)
    clear hb4
    go_wp2_with fail
    refine (HT2.out F f cf _ P4.out HI4.out HO3.out).mono ?_
    rintro e w5 ⟨hb5, rfl⟩
    have P5 := hid (P4.out.trans (hb5.mono P4.out.size))
    clear hb5
    rw [hte]
    have HTE := hid hte
    clear hte
    go_wp2_with fail
    refine (HT.out _ P5.out).mono ?_
    rintro e w6 ⟨hb6, rfl⟩
    have P6 := hid (P5.out.trans (hb6.mono P5.out.size))
    clear hb6
    go_wp2_with fail
    refine (HR.out _ P6.out).mono ?_
    rintro e w7 ⟨hb7, A7, c7, rfl, hs7⟩
    have P7 := hid (P6.out.trans (hb7.mono P6.out.size))
    have HS7 := hid hs7
    clear hs7
    clear hb7
    go_wp2_with fail
    refine (HI.out _ P7.out).mono ?_
    rintro e w8 ⟨hb8, rfl⟩
    have P8 := hid (P7.out.trans (hb8.mono P7.out.size))
    have HS8 := hid (HS7.out.below hb8)
    clear hb8
    go_wp2_with fail
    refine (HS.out _ P8.out).mono ?_
    rintro e w9 ⟨hb9, rfl⟩
    have P9 := hid (P8.out.trans (hb9.mono P8.out.size))
    have HS9 := hid (HS8.out.below hb9)
    clear hb9
    have hlow := HLow.out m HM.out
    have hse := HSo.out m HM.out hso
    clear HSo hso
    have hne : (tv != m) = false := by simp [hse]
    have hle1 : tv ≤ m := by omega
    have hle2 : m ≤ tv := by omega
    clear hse
    clear HT HT2 HBd H1 H2 HK HR HI HS HUn HBle HLow
    go_wp2
    go_loopw [22, 23] (fun t i wr => ∃ (j : Nat), j ≤ l.length ∧ i = .int .i64 j ∧ t = .int .i64 (packSum l j) ∧ Hid (wr = w9)) (fun _ i _ => l.length - (intOf i).toNat)
    case atStart => exact ⟨0, Nat.zero_le _, rfl, rfl, rfl⟩
    case round =>
      obtain ⟨j, hj, rfl, rfl, HWr⟩ := hrel
      have hps := packSum_bd HL.out.at_ j hj
      by_cases hlt : j < l.length
      · have hBr := HBt.out w9 P9.out
        rw [← HWr.out] at hBr
        rcases hBr.at_ with e | ⟨b, off, rfl, hcl⟩
        · rw [e] at hlt; simp at hlt
        obtain ⟨c0, c1⟩ := hcl j hlt
        have hbd := HL.out.at_ j hlt
        have hd : decide (j < l.length) = true := decide_eq_true hlt
        have HN := hid (show packSum l (j + 1) = packSum l j + (btAt l j).2 from rfl)
        clear hcl hBr
        generalize packSum l j = v at *
        generalize btAt l j = y at *
        go_wp2
        go_roundw
        case rel => exact ⟨j + 1, by omega, by go_num, by rw [HN.out], HWr⟩
        case measure => simp [intOf]; omega
      · obtain rfl : j = l.length := by omega
        have hd : decide (l.length < l.length) = false := decide_eq_false (Nat.lt_irrefl _)
        have hwr := HWr.out
        subst hwr
        have hw2 := HW.out
        generalize packSum l l.length = pv at *
        by_cases hz : l.length = 0
        · have hz1 : (o.length : Int) = 0 := by omega
          have htz : tv = 0 := by have := HTo.out; rw [HOL.out, hz] at this; exact this
          have hpz : pv = 0 := by omega
          have hiz : iv = 0 := by omega
          subst htz hiz
          clear hz hpz hw2
          go_wp2
          go_ret
          exact ⟨P9.out, rfl⟩
        · obtain ⟨hk1, hk2⟩ := HCk.out (by omega)
          rw [show critV l o = (((critF s : Nat) : Int), 0) by rw [HCV.out, if_pos HC0.out, if_neg hz]] at HCr
          have HKm := hid hk2
          have hto := HTo.out
          clear hk2 HCk HCV
          generalize hkk : critF s = k at *
          clear hkk
          have hz1 : (o.length : Int) ≠ 0 := by omega
          have hz2 : ((o.length : Int) == 0) = false := by rw [beq_eq_false_iff_ne]; omega
          have HTP := hid hto
          have HW2 := hid hw2
          clear hto hw2 hz
          go_wp2_with fail
          refine (HCr.out _ P9.out).mono ?_
          rintro e w10 ⟨hb10, rfl⟩
          have P10 := hid (P9.out.trans (hb10.mono P9.out.size))
          have HSx := HS9.out.below hb10
          clear hb10
          rcases HSx.at_ with e | ⟨b, off, rfl, hcs⟩
          · rw [e] at hk1; simp at hk1
          obtain ⟨q, hq⟩ : ∃ q, o.length = q + 1 := ⟨o.length - 1, by omega⟩
          obtain ⟨_, _, _, _, d4⟩ := hcs q (by omega)
          rw [← hq, ← HTP.out] at d4
          obtain ⟨_, _, f2, f3, _⟩ := hcs k hk1
          rw [HKm.out] at f3
          generalize cookTo s (k + 1) = ck at *
          have hiw : iv + pv = tv := HW2.out
          have j1 : (iv + pv == tv) = true := by simp [hiw]
          have j2 : (iv + pv != tv) = false := by simp [hiw]
          have HQ := hid hq
          have hk3 : (k : Int) < (o.length : Int) := by omega
          have hk0 : (0 : Int) ≤ (k : Int) := by omega
          have hq1 : (o.length : Int) - 1 = (q : Int) := by omega
          have hq2 : (q : Int) < (o.length : Int) := by omega
          have hq3 : (0 : Int) ≤ (q : Int) := by omega
          clear hcs HSx hiw hq
          go_wp2_with fail
          go_quiet (fail)
          go_wp2
          go_ret
          exact ⟨below_drewN P10.out _, rfl⟩
end Go.Proofs.Yteolckphafblmaa
