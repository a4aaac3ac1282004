/- The bound: package kitchen. -/
import Derived.Test.YteolckphafblmaaKiG
set_option linter.unusedVariables false
namespace Go.Proofs.Yteolckphafblmaa
open Go.RowKit

def minC2 (l : List Bt) : Nat → Int
  | 0 => 1000
  | k + 1 => min (minC2 l k) (btAt l k).1
def minP2 (l : List Bt) : Nat → Int
  | 0 => 1000
  | k + 1 => min (minP2 l k) (btAt l k).2
theorem min2_eq {l : List Bt} (h : BtsOk l) (k : Nat) (hk : k < l.length) : minC2 l (k + 1) = minCk l (k + 1) ∧ minP2 l (k + 1) = minPk l (k + 1) := by
  induction k with
  | zero => have := h.at_ 0 hk; simp only [minC2, minCk, minP2, minPk]; omega
  | succ k ih =>
    have := ih (by omega)
    exact ⟨by rw [minC2, minCk, this.1], by rw [minP2, minPk, this.2]⟩
theorem min2_bd {l : List Bt} (h : BtsOk l) (k : Nat) (hk : k ≤ l.length) : (0 ≤ minC2 l k ∧ minC2 l k ≤ 1000) ∧ 0 ≤ minP2 l k ∧ minP2 l k ≤ 1000 := by
  induction k with
  | zero => simp [minC2, minP2]
  | succ k ih => have := ih (by omega); have := h.at_ k (by omega); simp only [minC2, minP2]; omega
theorem oneK_bd {l : List Bt} (h : BtsOk l) (k : Nat) (hk : k ≤ l.length) : 0 ≤ oneK l k ∧ oneK l k ≤ 2000 := by
  induction k with
  | zero => simp [oneK]
  | succ k ih => have := ih (by omega); have := h.at_ k (by omega); simp only [oneK]; omega
def bndV (l : List Bt) : Int × Int := if valE l = 0 then (boundV l, 0) else (0, valE l)
set_option maxRecDepth 100000 in
set_option maxHeartbeats 2000000 in
theorem kBound_any (a : Option Addr) (l : List Bt) (cap : Nat) (w : World) (h : Bts w a l) : Calls Try.prog 28 #[.slice a l.length cap] w (PairK w (bndV l)) := by
  have hlen := h.len
  have HV := hid (kValidate_any a l cap w h)
  have HE := hid (show bndV l = if valE l = 0 then (boundV l, 0) else (0, valE l) from rfl)
  by_cases h0 : valE l = 0
  · have HE2 := hid ((HE.out).trans (if_pos h0))
    have hl := valE_ok h0
    have hl7 := hl.len
    rw [h0] at HV
    by_cases hz : l.length = 0
    · have HE3 := hid (show bndV l = (0, 0) by rw [HE2.out, boundV, if_pos hz])
      have hz1 : (l.length : Int) = 0 := by omega
      clear h h0 HE HE2 hl hz
      go_enter Try.func28, Try.ntmps28
      go_wp2_with fail
      refine HV.out.mono ?_
      rintro e w1 ⟨hb1, rfl⟩
      have P1 := hid hb1
      clear hb1
      go_wp2
      go_ret2
      exact ⟨P1.out, by rw [HE3.out]; rfl⟩
    · have HE3 := hid (show bndV l = (max (max (cookTo l l.length + minPk l l.length) (minCk l l.length + packSum l l.length)) (oneK l l.length), 0) by rw [HE2.out, boundV, if_neg hz])
      obtain ⟨q, hq⟩ : ∃ q, l.length = q + 1 := ⟨l.length - 1, by omega⟩
      have HM := hid (show minC2 l l.length = minCk l l.length ∧ minP2 l l.length = minPk l l.length by rw [hq]; exact min2_eq hl q (by omega))
      have hz1 : ((l.length : Int) == 0) = false := by rw [beq_eq_false_iff_ne]; omega
      have hz2 : (l.length : Int) ≠ 0 := by omega
      have HH := hid h
      have HL := hid hl
      clear h h0 HE HE2 hl hz hq
      go_enter Try.func28, Try.ntmps28
      go_wp2_with fail
      refine HV.out.mono ?_
      rintro e w1 ⟨hb1, rfl⟩
      have P1 := hid hb1
      clear hb1
      go_wp2
      go_loopw [5, 6, 7, 8, 9, 24] (fun t5 t6 t7 t8 t9 i wr => ∃ (j : Nat), j ≤ l.length ∧ i = .int .i64 j ∧ t5 = .int .i64 (cookTo l j) ∧ t6 = .int .i64 (packSum l j) ∧ t7 = .int .i64 (oneK l j) ∧ t8 = .int .i64 (minC2 l j) ∧ t9 = .int .i64 (minP2 l j) ∧ Hid (Below w.heap.size w wr)) (fun _ _ _ _ _ i _ => l.length - (intOf i).toNat)
      case atStart => exact ⟨0, Nat.zero_le _, rfl, rfl, rfl, rfl, rfl, rfl, P1⟩
      case round =>
        obtain ⟨j, hj, rfl, rfl, rfl, rfl, rfl, rfl, HB⟩ := hrel
        have e1 := cookTo_bd HL.out.at_ j hj
        have e2 := packSum_bd HL.out.at_ j hj
        have e3 := oneK_bd HL.out j hj
        have e4 := min2_bd HL.out j hj
        by_cases hlt : j < l.length
        · rcases (HH.out.below HB.out).at_ with e | ⟨b, off, rfl, hc⟩
          · rw [e] at hlt; simp at hlt
          obtain ⟨c0, c1⟩ := hc j hlt
          have hbd := HL.out.at_ j hlt
          have N1 := hid (show cookTo l (j + 1) = cookTo l j + (btAt l j).1 from rfl)
          have N2 := hid (show packSum l (j + 1) = packSum l j + (btAt l j).2 from rfl)
          have N3 := hid (show oneK l (j + 1) = max (oneK l j) ((btAt l j).1 + (btAt l j).2) from rfl)
          have N4 := hid (show minC2 l (j + 1) = min (minC2 l j) (btAt l j).1 from rfl)
          have N5 := hid (show minP2 l (j + 1) = min (minP2 l j) (btAt l j).2 from rfl)
          have hsz := HB.out.size
          have HB2 := hid (HB.out.alloc hsz (.cells #[.int .i64 (btAt l j).1, .int .i64 (btAt l j).2] 40))
          clear hc HM
          generalize cookTo l j = v1 at *
          generalize packSum l j = v2 at *
          generalize oneK l j = v3 at *
          generalize minC2 l j = v4 at *
          generalize minP2 l j = v5 at *
          generalize btAt l j = y at *
          go_wp2
          all_goals
            go_roundw
            case rel => exact ⟨j + 1, by omega, by go_num, by rw [N1.out], by rw [N2.out], congrArg (Value.int .i64) (by rw [N3.out]; omega), congrArg (Value.int .i64) (by rw [N4.out]; omega), congrArg (Value.int .i64) (by rw [N5.out]; omega), HB2⟩
            case measure => simp [intOf]; omega
        · obtain rfl : j = l.length := by omega
          have HE4 := hid (show bndV l = (max (max (cookTo l l.length + minP2 l l.length) (minC2 l l.length + packSum l l.length)) (oneK l l.length), 0) by rw [HE3.out, HM.out.1, HM.out.2])
          clear HE3 HM
          generalize cookTo l l.length = v1 at *
          generalize packSum l l.length = v2 at *
          generalize oneK l l.length = v3 at *
          generalize minC2 l l.length = v4 at *
          generalize minP2 l l.length = v5 at *
          go_wp2
          all_goals
            go_ret2
            refine ⟨HB.out, ?_⟩
            rw [HE4.out]
            exact ret_ints (by omega) rfl
  · have HE2 := hid ((HE.out).trans (if_neg h0))
    have h1 : (valE l != 0) = true := by simp [h0]
    clear h h0 HE
    generalize valE l = v at *
    go_enter Try.func28, Try.ntmps28
    go_wp2_with fail
    refine HV.out.mono ?_
    rintro e w1 ⟨hb1, rfl⟩
    have P1 := hid hb1
    clear hb1
    go_wp2
    go_ret2
    exact ⟨P1.out, by rw [HE2.out]; rfl⟩
end Go.Proofs.Yteolckphafblmaa
