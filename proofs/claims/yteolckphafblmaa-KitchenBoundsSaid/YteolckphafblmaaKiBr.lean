/- The document's own bound. -/
import Derived.Test.YteolckphafblmaaKiBd
set_option linter.unusedVariables false
namespace Go.Proofs.Yteolckphafblmaa
open Go.RowKit

def DrwP (w : World) (v : Int × Int) (en : Ending) (w' : World) : Prop := (∃ n, w' = w.drewN n) ∧ en = .returned (.tuple #[.int .i64 v.1, .int .i64 v.2])
theorem mink_bd {l : List Bt} (h : BtsOk l) (h0 : 0 < l.length) (k : Nat) (hk : k ≤ l.length) : (0 ≤ minCk l k ∧ minCk l k ≤ 1000) ∧ 0 ≤ minPk l k ∧ minPk l k ≤ 1000 := by
  induction k with
  | zero => have := h.at_ 0 h0; simp only [minCk, minPk]; omega
  | succ k ih => have := ih (by omega); have := h.at_ k (by omega); simp only [minCk, minPk]; omega
set_option maxRecDepth 100000 in
set_option maxHeartbeats 2000000 in
theorem krBound_any (a : Option Addr) (l : List Bt) (cap : Nat) (w : World) (h : Bts w a l) : Calls Try.prog 29 #[.slice a l.length cap] w (DrwP w (bndV l)) := by
  have hlen := h.len
  have HV := hid (krValidate_any a l cap w h)
  have HE := hid (show bndV l = if valE l = 0 then (boundV l, 0) else (0, valE l) from rfl)
  by_cases h0 : valE l = 0
  · have HE2 := hid ((HE.out).trans (if_pos h0))
    have hl := valE_ok h0
    have hl7 := hl.len
    rw [h0] at HV
    by_cases hz : l.length = 0
    · have HE3 := hid (show bndV l = (0, 0) by rw [HE2.out, boundV, if_pos hz])
      have hz1 : (l.length : Int) = 0 := by omega
      clear h h0 HE HE2 hl hz
      go_enter Try.func29, Try.ntmps29
      go_wp2_with fail
      refine HV.out.mono ?_
      rintro e w1 ⟨rfl, rfl⟩
      go_wp2
      go_ret2
      exact ⟨⟨0, rfl⟩, by rw [HE3.out]; rfl⟩
    · have HE3 := hid (show bndV l = (max (max (cookTo l l.length + minPk l l.length) (minCk l l.length + packSum l l.length)) (oneK l l.length), 0) by rw [HE2.out, boundV, if_neg hz])
      have hz1 : ((l.length : Int) == 0) = false := by rw [beq_eq_false_iff_ne]; omega
      have hz2 : (l.length : Int) ≠ 0 := by omega
      have hz3 : 0 < l.length := by omega
      have hz4 : (0 : Int) < (l.length : Int) := by omega
      have HH := hid h
      have HL := hid hl
      rcases h.at_ with e | ⟨b0, off0, rfl, hc0⟩
      · rw [e] at hz; simp at hz
      obtain ⟨d0, d1⟩ := hc0 0 hz3
      rw [Nat.zero_mul, Nat.add_zero] at d0 d1
      have HI1 := hid (show minCk l 0 = (btAt l 0).1 from rfl)
      have HI2 := hid (show minPk l 0 = (btAt l 0).2 from rfl)
      generalize btAt l 0 = y0 at *
      clear h h0 HE HE2 hl hz hc0
      go_enter Try.func29, Try.ntmps29
      go_wp2_with fail
      refine HV.out.mono ?_
      rintro e w1 ⟨rfl, rfl⟩
      go_wp2_with fail
      go_quiet (fail)
      have HD0 := hid (show ∃ n, w.drewN nq = w.drewN n from ⟨nq, rfl⟩)
      generalize w.drewN nq = wd at *
      go_wp2
      go_loopw [5, 6, 7, 8, 9, 10] (fun t5 t6 t7 t8 t9 i wr => ∃ (j : Nat), j ≤ l.length ∧ i = .int .i64 j ∧ t5 = .int .i64 (cookTo l j) ∧ t6 = .int .i64 (packSum l j) ∧ t7 = .int .i64 (oneK l j) ∧ t8 = .int .i64 (minCk l j) ∧ t9 = .int .i64 (minPk l j) ∧ Hid (∃ n, wr = w.drewN n)) (fun _ _ _ _ _ i _ => l.length - (intOf i).toNat)
      case atStart => exact ⟨0, Nat.zero_le _, rfl, rfl, rfl, rfl, by rw [HI1.out], by rw [HI2.out], HD0⟩
      case round =>
        obtain ⟨j, hj, rfl, rfl, rfl, rfl, rfl, rfl, HB⟩ := hrel
        have e1 := cookTo_bd HL.out.at_ j hj
        have e2 := packSum_bd HL.out.at_ j hj
        have e3 := oneK_bd HL.out j hj
        have e4 := mink_bd HL.out hz3 j hj
        by_cases hlt : j < l.length
        · have HG : Hid (Bts wr (some ⟨b0, off0, none⟩) l) := by obtain ⟨n, e⟩ := HB.out; rw [e]; exact HH.out.below (below_drewN (Below.refl _ _) n)
          obtain ⟨c0, c1⟩ : wr.cell? ⟨b0, off0 + j * 2, none⟩ = some (.int .i64 (btAt l j).1) ∧ wr.cell? ⟨b0, off0 + j * 2 + 1, none⟩ = some (.int .i64 (btAt l j).2) := by
            rcases HG.out.at_ with e | ⟨b, off, hb, hc⟩
            · rw [e] at hlt; simp at hlt
            · cases hb; exact hc j hlt
          have hbd := HL.out.at_ j hlt
          have hdl : decide (j < l.length) = true := decide_eq_true hlt
          have i0 : (0 : Int) ≤ (j : Int) := by omega
          have i1 : (j : Int) < (l.length : Int) := by omega
          have N1 := hid (show cookTo l (j + 1) = cookTo l j + (btAt l j).1 from rfl)
          have N2 := hid (show packSum l (j + 1) = packSum l j + (btAt l j).2 from rfl)
          have N3 := hid (show oneK l (j + 1) = max (oneK l j) ((btAt l j).1 + (btAt l j).2) from rfl)
          have N4 := hid (show minCk l (j + 1) = min (minCk l j) (btAt l j).1 from rfl)
          have N5 := hid (show minPk l (j + 1) = min (minPk l j) (btAt l j).2 from rfl)
          clear HD0 d0 d1
          generalize cookTo l j = v1 at *
          generalize packSum l j = v2 at *
          generalize oneK l j = v3 at *
          generalize minCk l j = v4 at *
          generalize minPk l j = v5 at *
          generalize btAt l j = y at *
          have s1 : IntKind.i64.wrap (y.1 + y.2) = y.1 + y.2 := IntWalk.i64_in _ (by omega)
          by_cases hm : v3 < y.1 + y.2
          · have hm1 : ¬ (y.1 + y.2 ≤ v3) := by omega
            have hm2 : decide (v3 < y.1 + y.2) = true := decide_eq_true hm
            have N6 := hid (show oneK l (j + 1) = y.1 + y.2 by rw [N3.out]; omega)
            clear N3
            go_wp2
            all_goals
              go_region
              go_wp2
              go_roundw
              case rel => exact ⟨j + 1, by omega, by go_num, by rw [N1.out], by rw [N2.out], by rw [N6.out], congrArg (Value.int .i64) (by rw [N4.out]; omega), congrArg (Value.int .i64) (by rw [N5.out]; omega), by obtain ⟨n, e⟩ := HB.out; first | exact ⟨n + 1, by rw [e]; rfl⟩ | exact ⟨_, by rw [e, World.drewN_drewN]⟩ | exact ⟨n, e⟩⟩
              case measure => simp [intOf]; omega
          · have hm1 : y.1 + y.2 ≤ v3 := by omega
            have hm2 : decide (v3 < y.1 + y.2) = false := decide_eq_false hm
            have N6 := hid (show oneK l (j + 1) = v3 by rw [N3.out]; omega)
            clear N3
            go_wp2
            all_goals
              go_region
              go_wp2
              go_roundw
              case rel => exact ⟨j + 1, by omega, by go_num, by rw [N1.out], by rw [N2.out], by rw [N6.out], congrArg (Value.int .i64) (by rw [N4.out]; omega), congrArg (Value.int .i64) (by rw [N5.out]; omega), by obtain ⟨n, e⟩ := HB.out; first | exact ⟨n + 1, by rw [e]; rfl⟩ | exact ⟨_, by rw [e, World.drewN_drewN]⟩ | exact ⟨n, e⟩⟩
              case measure => simp [intOf]; omega
        · obtain rfl : j = l.length := by omega
          have hdl : decide (l.length < l.length) = false := decide_eq_false (Nat.lt_irrefl _)
          generalize cookTo l l.length = v1 at *
          generalize packSum l l.length = v2 at *
          generalize oneK l l.length = v3 at *
          generalize minCk l l.length = v4 at *
          generalize minPk l l.length = v5 at *
          go_wp2
          all_goals
            go_ret2
            refine ⟨HB.out, ?_⟩
            rw [HE3.out]
            exact ret_ints (by omega) rfl
  · have HE2 := hid ((HE.out).trans (if_neg h0))
    have h1 : (valE l != 0) = true := by simp [h0]
    clear h h0 HE
    generalize valE l = v at *
    go_enter Try.func29, Try.ntmps29
    go_wp2_with fail
    refine HV.out.mono ?_
    rintro e w1 ⟨rfl, rfl⟩
    go_wp2
    go_ret2
    exact ⟨⟨0, rfl⟩, by rw [HE2.out]; rfl⟩
end Go.Proofs.Yteolckphafblmaa
