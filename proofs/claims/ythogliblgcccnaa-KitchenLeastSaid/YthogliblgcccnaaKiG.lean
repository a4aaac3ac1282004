/- Time and Critical: the document's own, and package kitchen's. -/
import Derived.Test.YthogliblgcccnaaKiF
set_option linter.unusedVariables false
namespace Go.Proofs.Ythogliblgcccnaa
open Go.RowKit

def PairE (w : World) (v : Int × Int) (en : Ending) (w' : World) : Prop := w = w' ∧ en = .returned (.tuple #[.int .i64 v.1, .int .i64 v.2])
def critV (l : List Bt) (o : List Int) : Int × Int := if chkE l o = 0 then (if l.length = 0 then (0, 5) else (((critF (seqO l o) : Nat) : Int), 0)) else (0, chkE l o)
set_option maxRecDepth 100000 in
set_option maxHeartbeats 1000000 in
theorem krTime_any (a A : Option Addr) (l : List Bt) (o : List Int) (cap oc : Nat) (w : World) (h : Bts w a l) (hO : Ints w A o) : Calls Try.prog 22 #[.slice a l.length cap, .slice A o.length oc] w (PairE w (timeV l o)) := by
  have hlen := h.len
  have holen := hO.len
  have HV := hid (krOrdered_any a A l o cap oc w h hO)
  have HE := hid (show timeV l o = if chkE l o = 0 then (timeO l o, 0) else (0, chkE l o) from rfl)
  by_cases h0 : chkE l o = 0
  · have HE2 := hid ((HE.out).trans (if_pos h0))
    obtain ⟨hl, ho⟩ := chkE_ok h0
    have HR := hid (krLongest_any a A l o cap oc w h hO hl ho)
    rw [h0] at HV
    clear h hO h0 HE hl ho
    generalize timeO l o = v at *
    generalize critF (seqO l o) = q at *
    go_enter Try.func22, Try.ntmps22
    go_wp2_with fail
    refine HV.out.mono ?_
    rintro e w1 ⟨rfl, rfl⟩
    go_wp2_with fail
    refine HR.out.mono ?_
    rintro e w2 ⟨rfl, rfl⟩
    go_wp2
    go_ret2
    exact ⟨rfl, by rw [HE2.out]; rfl⟩
  · have HE2 := hid ((HE.out).trans (if_neg h0))
    have h1 : (chkE l o != 0) = true := by simp [h0]
    clear h hO h0 HE
    generalize chkE l o = v at *
    go_enter Try.func22, Try.ntmps22
    go_wp2_with fail
    refine HV.out.mono ?_
    rintro e w1 ⟨rfl, rfl⟩
    go_wp2
    go_ret2
    exact ⟨rfl, by rw [HE2.out]; rfl⟩
set_option maxRecDepth 100000 in
set_option maxHeartbeats 1000000 in
theorem krCritical_any (a A : Option Addr) (l : List Bt) (o : List Int) (cap oc : Nat) (w : World) (h : Bts w a l) (hO : Ints w A o) : Calls Try.prog 28 #[.slice a l.length cap, .slice A o.length oc] w (PairE w (critV l o)) := by
  have hlen := h.len
  have holen := hO.len
  have HV := hid (krOrdered_any a A l o cap oc w h hO)
  have HE := hid (show critV l o = if chkE l o = 0 then (if l.length = 0 then (0, 5) else (((critF (seqO l o) : Nat) : Int), 0)) else (0, chkE l o) from rfl)
  by_cases h0 : chkE l o = 0
  · have HE2 := hid ((HE.out).trans (if_pos h0))
    obtain ⟨hl, ho⟩ := chkE_ok h0
    have HR := hid (krLongest_any a A l o cap oc w h hO hl ho)
    rw [h0] at HV
    clear h hO h0 HE hl ho
    generalize timeO l o = v at *
    generalize critF (seqO l o) = q at *
    by_cases hz : l.length = 0
    · have HE3 := hid ((HE2.out).trans (if_pos hz))
      have hz1 : (l.length : Int) = 0 := by omega
      clear HE2 hz
      go_enter Try.func28, Try.ntmps28
      go_wp2_with fail
      refine HV.out.mono ?_
      rintro e w1 ⟨rfl, rfl⟩
      go_wp2
      go_ret2
      exact ⟨rfl, by rw [HE3.out]; rfl⟩
    · have HE3 := hid ((HE2.out).trans (if_neg hz))
      have hz1 : ((l.length : Int) == 0) = false := by rw [beq_eq_false_iff_ne]; omega
      have hz2 : (l.length : Int) ≠ 0 := by omega
      clear HE2 hz
      go_enter Try.func28, Try.ntmps28
      go_wp2_with fail
      refine HV.out.mono ?_
      rintro e w1 ⟨rfl, rfl⟩
      go_wp2_with fail
      refine HR.out.mono ?_
      rintro e w2 ⟨rfl, rfl⟩
      go_wp2
      go_ret2
      exact ⟨rfl, by rw [HE3.out]; rfl⟩
  · have HE2 := hid ((HE.out).trans (if_neg h0))
    have h1 : (chkE l o != 0) = true := by simp [h0]
    clear h hO h0 HE
    generalize chkE l o = v at *
    go_enter Try.func28, Try.ntmps28
    go_wp2_with fail
    refine HV.out.mono ?_
    rintro e w1 ⟨rfl, rfl⟩
    go_wp2
    go_ret2
    exact ⟨rfl, by rw [HE2.out]; rfl⟩
theorem packSum_bd {s : List Bt} (h : ∀ i, i < s.length → (0 ≤ (btAt s i).1 ∧ (btAt s i).1 ≤ 1000) ∧ 0 ≤ (btAt s i).2 ∧ (btAt s i).2 ≤ 1000) (k : Nat) (hk : k ≤ s.length) : 0 ≤ packSum s k ∧ packSum s k ≤ 1000 * k := by
  induction k with
  | zero => simp [packSum]
  | succ k ih => have := ih (by omega); have := h k (by omega); simp only [packSum]; omega
theorem totP_seq {l : List Bt} {o : List Int} (ho : IsOrd o l.length) : totP (seqO l o) = packSum l l.length := by
  rw [totP_perm (seqO_perm ho), totP_end]
set_option maxRecDepth 100000 in
set_option maxHeartbeats 2000000 in
theorem kCritical_any (a A : Option Addr) (l : List Bt) (o : List Int) (cap oc : Nat) (w : World) (h : Bts w a l) (hO : Ints w A o) : Calls Try.prog 27 #[.slice a l.length cap, .slice A o.length oc] w (PairK w (critV l o)) := by
  have hlen := h.len
  have holen := hO.len
  have HV := hid (kCheck_any a A l o cap oc w h hO)
  have HE := hid (show critV l o = if chkE l o = 0 then (if l.length = 0 then (0, 5) else (((critF (seqO l o) : Nat) : Int), 0)) else (0, chkE l o) from rfl)
  by_cases h0 : chkE l o = 0
  · have HE2 := hid ((HE.out).trans (if_pos h0))
    obtain ⟨hl, ho⟩ := chkE_ok h0
    have hol := ho.len
    have hl7 := hl.len
    have HR := hid (fun W (hb : Below w.heap.size w W) => kRun_any a A l o cap oc W (h.below hb) (hO.below hb) hl ho)
    have HTo := hid (timeO_to l o)
    have HTm := hid (show timeO l o = tm 0 0 (seqO l o) from rfl)
    have HP := hid (fun W (hb : Below w.heap.size w W) i (hi : i < o.length) => at_place (h.below hb) (hO.below hb) hl ho i hi)
    have HH := hid h
    have HS := hid (seq_ok hl ho)
    have HL := hid hl
    have HSL := hid (seqO_len l o)
    have HX := hid (totP_seq ho)
    have HNN := hid (NN_of (seq_ok hl ho))
    rw [h0] at HV
    have hb7 := packTo_bd (seq_ok hl ho) o.length (by rw [seqO_len]; exact Nat.le_refl _)
    rw [← HTo.out] at hb7
    have h1 : (o.length : Int) ≤ (l.length : Int) := by omega
    have h2 : (l.length : Int) ≤ (o.length : Int) := by omega
    have HOL := hid hol
    clear h hO h0 HE hl ho hol
    generalize hs : seqO l o = s at *
    have HSq := hid hs
    clear hs
    generalize htm : timeO l o = tv at *
    clear htm
    go_enter Try.func27, Try.ntmps27
    go_wp2_with fail
    refine HV.out.mono ?_
    rintro e w1 ⟨hb1, rfl⟩
    have P1 := hid hb1
    clear hb1
    go_wp2_with fail
    refine (HR.out _ P1.out).mono ?_
    rintro e w2 ⟨hb2, A2, c2, rfl, hs2⟩
    have P2 := hid (P1.out.trans (hb2.mono P1.out.size))
    have S2 := hid hs2
    clear hb2 hs2
    go_wp2_with fail
    refine (kTimeOf_any A2 o s c2 _ S2.out).mono ?_
    rintro e w3 ⟨rfl, rfl⟩
    rw [← HTo.out]
    clear HR HV S2
    go_wp2
    go_loopw [8, 25] (fun t i wr => ∃ (j : Nat), j ≤ l.length ∧ i = .int .i64 j ∧ t = .int .i64 (packSum l j) ∧ Hid (Below w.heap.size w wr)) (fun _ i _ => l.length - (intOf i).toNat)
    case atStart => exact ⟨0, Nat.zero_le _, rfl, rfl, P2⟩
    case round =>
      obtain ⟨j, hj, rfl, rfl, HB⟩ := hrel
      have hps := packSum_bd HL.out.at_ j hj
      by_cases hlt : j < l.length
      · rcases (HH.out.below HB.out).at_ with e | ⟨b, off, rfl, hc⟩
        · rw [e] at hlt; simp at hlt
        obtain ⟨c0, c1⟩ := hc j hlt
        have hbd := HL.out.at_ j hlt
        have HN := hid (show packSum l (j + 1) = packSum l j + (btAt l j).2 from rfl)
        have hsz := HB.out.size
        have HB2 := hid (HB.out.alloc hsz (.cells #[.int .i64 (btAt l j).1, .int .i64 (btAt l j).2] 40))
        clear hc HP
        generalize packSum l j = v at *
        generalize btAt l j = y at *
        go_wp2
        go_roundw
        case rel => exact ⟨j + 1, by omega, by go_num, by rw [HN.out], HB2⟩
        case measure => simp [intOf]; omega
      · obtain rfl : j = l.length := by omega
        have HB0 := HB
        clear P2 HB
        have HI0 := hid (show packSum l l.length = cookTo s 0 + totP s - packSum s 0 by rw [HX.out]; simp [cookTo, packSum])
        generalize packSum l l.length = v0 at *
        go_wp2
        obtain ⟨wo, rfl⟩ : ∃ wo : World, wo = wr := ⟨_, rfl⟩
        go_loopw [8, 36] (fun t i wr => ∃ (j : Nat), j ≤ o.length ∧ i = .int .i64 j ∧ t = .int .i64 (cookTo s j + totP s - packSum s j) ∧ Hid (∀ i, i < j → path s i ≠ tm 0 0 s) ∧ Hid (Below w.heap.size w wr)) (fun _ i _ => o.length - (intOf i).toNat)
        case atStart => exact ⟨0, Nat.zero_le _, rfl, by rw [← HI0.out], fun i hi => absurd hi (Nat.not_lt_zero _), HB0⟩
        case round =>
          obtain ⟨k, hk, rfl, rfl, HF, HB⟩ := hrel
          have g1 := cookTo_bd HS.out k (by rw [HSL.out]; exact hk)
          have g2 := packSum_bd HS.out k (by rw [HSL.out]; exact hk)
          have g3 : 0 ≤ totP s ∧ totP s ≤ 1000 * (l.length : Int) := by rw [HX.out]; exact hps
          by_cases hlt2 : k < o.length
          · obtain ⟨n, b, off, b2, off2, hn, rfl, rfl, c0, c1, c2⟩ := HP.out _ HB.out k hlt2
            have hbd := HS.out k (by rw [HSL.out]; exact hlt2)
            have hsz := HB.out.size
            have HB2 := hid (HB.out.alloc hsz (.cells #[.int .i64 (btAt s k).1, .int .i64 (btAt s k).2] 40))
            have HPe := hid (path_eq s k (by rw [HSL.out]; exact hlt2))
            have HN := hid (show cookTo s (k + 1) + totP s - packSum s (k + 1) = (cookTo s k + totP s - packSum s k) + (btAt s k).1 - (btAt s k).2 by simp only [cookTo, packSum]; omega)
            have HC := hid (show cookTo s (k + 1) = cookTo s k + (btAt s k).1 from rfl)
            have HCr := hid (fun (he : path s k = tm 0 0 s) => critF_is ⟨by rw [HSL.out]; exact hlt2, he, HF.out⟩)
            have HLz := hid (show l.length ≠ 0 by have := HOL.out; omega)
            clear HP
            generalize hv : cookTo s k + totP s - packSum s k = v at *
            have hvb : -100000 ≤ v ∧ v ≤ 100000 := by omega
            have HPe2 := hid (show path s k = v + (btAt s k).1 by rw [HPe.out, HC.out]; omega)
            clear HPe HC g1 g2 g3 hv
            generalize btAt s k = y at *
            by_cases he : v + y.1 = tv
            · have HQ := hid (HCr.out (by rw [HPe2.out, he, HTm.out]))
              have he' : (v + y.1 == tv) = true := by simp [he]
              have HE3 := hid ((HE2.out).trans (if_neg HLz.out))
              have he1 : v + y.1 ≤ tv := by omega
              have he2 : tv ≤ v + y.1 := by omega
              clear he HCr HN
              go_wp2
              go_ret2
              exact ⟨HB2.out, by rw [HE3.out, HQ.out]; rfl⟩
            · have HQ := hid (fun i (hi : i < k + 1) => show path s i ≠ tm 0 0 s from by
                rcases Nat.lt_or_ge i k with hh | hh
                · exact HF.out i hh
                · rw [show i = k by omega, HPe2.out, ← HTm.out]; exact he)
              have he' : (v + y.1 == tv) = false := by simp [he]
              clear he HCr
              go_wp2
              go_roundw
              case rel => exact ⟨k + 1, by omega, by go_num, by rw [HN.out], HQ, HB2⟩
              case measure => simp [intOf]; omega
          · obtain rfl : k = o.length := by omega
            have HLz := hid (show l.length = 0 by
              by_cases hz : l.length = 0
              · exact hz
              · exfalso
                have h0s : 0 < s.length := by rw [HSL.out, HOL.out]; omega
                obtain ⟨k2, hk2⟩ := crit_has s HNN.out h0s
                exact HF.out k2 (by rw [← HSL.out]; exact hk2.lt) hk2.eq)
            have HE3 := hid ((HE2.out).trans (if_pos HLz.out))
            go_wp2
            go_ret2
            exact ⟨HB.out, by rw [HE3.out]; rfl⟩
  · have HE2 := hid ((HE.out).trans (if_neg h0))
    have h1 : (chkE l o != 0) = true := by simp [h0]
    clear h hO h0 HE
    generalize chkE l o = v at *
    go_enter Try.func27, Try.ntmps27
    go_wp2_with fail
    refine HV.out.mono ?_
    rintro e w1 ⟨hb1, rfl⟩
    have P1 := hid hb1
    clear hb1
    go_wp2
    go_ret2
    exact ⟨P1.out, by rw [HE2.out]; rfl⟩
end Go.Proofs.Ythogliblgcccnaa
