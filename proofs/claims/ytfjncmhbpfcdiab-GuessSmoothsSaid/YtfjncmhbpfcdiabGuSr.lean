/- Smoothed numbers: the document's own. -/
import Derived.Test.YtfjncmhbpfcdiabGuSm
set_option linter.unusedVariables false
namespace Go.Proofs.Ytfjncmhbpfcdiab
open Go.RowKit

theorem smoothV_no {l : List Int} {num den : Int} (h : smB l num den ≠ true) : smoothV l num den = ((0, 0), 1) := if_neg h
theorem smB_fst {l : List Int} {num den : Int} (h : smB l num den = true) : allC 1000000 l = true := by
  unfold smB at h; rw [Bool.and_eq_true] at h; exact h.1
set_option maxRecDepth 100000 in
set_option maxHeartbeats 4000000 in
theorem grSmooth_any (a : Option Addr) (l : List Int) (cap : Nat) (num den : Int) (w : World) (h : Ints w a l) :
  Calls Try.prog 12 #[.slice a l.length cap, .int .i64 num, .int .i64 den] w (RatE w (smoothV l num den)) := by
  have hlen := h.len
  have hB0 := (Below.refl w.heap.size w).alloc (Nat.le_refl _) (.cells #[.int .i64 0, .int .i64 0] 28)
  have HV := hid (Var2.made w)
  have HI := hid (h.below hB0)
  have HE := hid (show smoothV l num den = if smB l num den = true then (if 8 < l.length then ((0, 0), 4) else (fracL (smN l num.toNat den.toNat (l.length - 1)) (den.toNat ^ (l.length - 1)), 0)) else ((0, 0), 1) from rfl)
  have HSM := hid (show smB l num den = (allC 1000000 l && (decide (0 < l.length) && (cinB den 1 10 && cinB num 0 den))) from rfl)
  generalize hw0 : w.alloc (.cells #[.int .i64 0, .int .i64 0] 28) = w0 at *
  have HB0 := hid hB0
  clear hB0 h
  obtain ⟨a0, a1, f0, f1⟩ := HV.out
  have zt := set2_cells w0 w.heap.size (.int .i64 0) (.int .i64 0) _ _ a0 a1
  have HZt := hid zt
  have HZb := hid ((HB0.out.setCell (p := ⟨w.heap.size, 0, none⟩) (Nat.le_refl _) (.int .i64 0)).setCell (p := ⟨w.heap.size, 1, none⟩) (Nat.le_refl _) (.int .i64 0))
  clear zt
  by_cases hb : 0 < l.length
  case neg =>
    have hb0 : (l.length : Int) = 0 := by omega
    have HF := hid (smoothV_no (show smB l num den ≠ true by rw [HSM.out, decide_eq_false hb]; simp))
    clear hb HE HSM HI
    go_enter Try.func12, Try.ntmps12
    go_wp2
    clear hw0
    obtain ⟨t0, t1⟩ := HZt.out
    exact bodyPost_ret (v := .tuple #[.agg #[.int .i64 0, .int .i64 0], .int .i64 1]) (by simp [results, Try.results12, go_sem, t0, t1]) rfl ⟨HZb.out, by rw [HF.out]⟩
  have hc0 : 0 < l.length := hb
  have hz9 : ((l.length : Int) == 0) = false := by rw [beq_eq_false_iff_ne]; omega
  clear hb
  by_cases hb : 1 ≤ den
  case neg =>
    have hb1 : den < 1 := by omega
    have HF := hid (smoothV_no (show smB l num den ≠ true by rw [HSM.out, show cinB den 1 10 = false by simp [cinB]; omega]; simp))
    clear hb HE HSM HI
    go_enter Try.func12, Try.ntmps12
    go_wp2
    clear hw0
    obtain ⟨t0, t1⟩ := HZt.out
    exact bodyPost_ret (v := .tuple #[.agg #[.int .i64 0, .int .i64 0], .int .i64 1]) (by simp [results, Try.results12, go_sem, t0, t1]) rfl ⟨HZb.out, by rw [HF.out]⟩
  have hc1 : 1 ≤ den := hb
  clear hb
  by_cases hb : den ≤ 10
  case neg =>
    have hb2 : 10 < den := by omega
    have HF := hid (smoothV_no (show smB l num den ≠ true by rw [HSM.out, show cinB den 1 10 = false by simp [cinB]; omega]; simp))
    clear hb HE HSM HI
    go_enter Try.func12, Try.ntmps12
    go_wp2
    clear hw0
    obtain ⟨t0, t1⟩ := HZt.out
    exact bodyPost_ret (v := .tuple #[.agg #[.int .i64 0, .int .i64 0], .int .i64 1]) (by simp [results, Try.results12, go_sem, t0, t1]) rfl ⟨HZb.out, by rw [HF.out]⟩
  have hc2 : den ≤ 10 := hb
  clear hb
  by_cases hb : 0 ≤ num
  case neg =>
    have hb3 : num < 0 := by omega
    have HF := hid (smoothV_no (show smB l num den ≠ true by rw [HSM.out, show cinB num 0 den = false by simp [cinB]; omega]; simp))
    clear hb HE HSM HI
    go_enter Try.func12, Try.ntmps12
    go_wp2
    clear hw0
    obtain ⟨t0, t1⟩ := HZt.out
    exact bodyPost_ret (v := .tuple #[.agg #[.int .i64 0, .int .i64 0], .int .i64 1]) (by simp [results, Try.results12, go_sem, t0, t1]) rfl ⟨HZb.out, by rw [HF.out]⟩
  have hc3 : 0 ≤ num := hb
  clear hb
  by_cases hb : num ≤ den
  case neg =>
    have hb4 : den < num := by omega
    have HF := hid (smoothV_no (show smB l num den ≠ true by rw [HSM.out, show cinB num 0 den = false by simp [cinB]; omega]; simp))
    clear hb HE HSM HI
    go_enter Try.func12, Try.ntmps12
    go_wp2
    clear hw0
    obtain ⟨t0, t1⟩ := HZt.out
    exact bodyPost_ret (v := .tuple #[.agg #[.int .i64 0, .int .i64 0], .int .i64 1]) (by simp [results, Try.results12, go_sem, t0, t1]) rfl ⟨HZb.out, by rw [HF.out]⟩
  have hc4 : num ≤ den := hb
  clear hb
  have HSM2 := hid (show smB l num den = allC 1000000 l by
    rw [HSM.out, decide_eq_true (show 0 < l.length by omega), show cinB den 1 10 = true by simp [cinB]; omega, show cinB num 0 den = true by simp [cinB]; omega]; simp)
  go_enter Try.func12, Try.ntmps12
  go_wp2
  clear hw0
  go_loop [8] (fun t => ∃ k : Nat, k ≤ l.length ∧ t = .int .i64 k ∧ Hid (allC 1000000 l = allC 1000000 (l.drop k))) (fun t => l.length - (intOf t).toNat)
  case atStart => exact ⟨0, Nat.zero_le _, rfl, rfl⟩
  case round =>
    obtain ⟨k, hk, rfl, HA⟩ := hrel
    by_cases hlt : k < l.length
    · rcases HI.out.at_ with e | ⟨b, off, rfl, hc⟩
      · rw [e] at hlt; simp at hlt
      have c0 := hc k hlt
      have HDa := hid (allC_drop 1000000 l k hlt)
      clear hc
      rw [show l[k]?.getD 0 = cAt l k from rfl] at c0
      generalize cAt l k = x at *
      by_cases hx1 : 0 ≤ x
      · by_cases hx2 : x ≤ 1000000
        · have HA2 := hid (show allC 1000000 l = allC 1000000 (l.drop (k + 1)) by rw [HA.out, HDa.out, decide_eq_true ⟨hx1, hx2⟩, Bool.true_and])
          clear HA HDa
          go_wp2
          go_round
          case rel => exact ⟨k + 1, by omega, by go_num, HA2⟩
          case measure => simp [intOf]; omega
        · have hx2' : 1000000 < x := by omega
          have HF := hid (smoothV_no (show smB l num den ≠ true by rw [HSM2.out, HA.out, HDa.out, decide_eq_false (fun h => hx2 h.2)]; simp))
          clear HA HDa hx2
          go_wp2
          obtain ⟨t0, t1⟩ := HZt.out
          exact bodyPost_ret (v := .tuple #[.agg #[.int .i64 0, .int .i64 0], .int .i64 1]) (by simp [results, Try.results12, go_sem, t0, t1]) rfl ⟨HZb.out, by rw [HF.out]⟩
      · have hx1' : x < 0 := by omega
        have HF := hid (smoothV_no (show smB l num den ≠ true by rw [HSM2.out, HA.out, HDa.out, decide_eq_false (fun h => hx1 h.1)]; simp))
        clear HA HDa hx1
        go_wp2
        obtain ⟨t0, t1⟩ := HZt.out
        exact bodyPost_ret (v := .tuple #[.agg #[.int .i64 0, .int .i64 0], .int .i64 1]) (by simp [results, Try.results12, go_sem, t0, t1]) rfl ⟨HZb.out, by rw [HF.out]⟩
    · have hA2 : allC 1000000 l = true := by rw [HA.out, List.drop_of_length_le (by omega)]; rfl
      have hsb : smB l num den = true := by rw [HSM2.out]; exact hA2
      have hdk : ¬ ((k : Int) < (l.length : Int)) := by omega
      have hall := allC_at hA2
      by_cases h8 : 8 < l.length
      · have h8' : (8 : Int) < (l.length : Int) := by omega
        have HE3 := hid (((HE.out).trans (if_pos hsb)).trans (if_pos h8))
        clear hA2 hsb HA hall h8
        go_wp2
        obtain ⟨t0, t1⟩ := HZt.out
        exact bodyPost_ret (v := .tuple #[.agg #[.int .i64 0, .int .i64 0], .int .i64 4]) (by simp [results, Try.results12, go_sem, t0, t1]) rfl ⟨HZb.out, by rw [HE3.out]⟩
      · have h8' : (l.length : Int) ≤ 8 := by omega
        have HE3 := hid (((HE.out).trans (if_pos hsb)).trans (if_neg h8))
        obtain ⟨nn, rfl⟩ := Int.eq_ofNat_of_zero_le hc3
        obtain ⟨dd, rfl⟩ := Int.eq_ofNat_of_zero_le (show 0 ≤ den by omega)
        rw [Int.toNat_natCast, Int.toNat_natCast] at HE3
        rcases HI.out.at_ with e | ⟨b, off, rfl, hc⟩
        · rw [e] at hc0; simp at hc0
        have hcN : ∀ j, j < l.length → (cAt l j = (cN l j : Int)) ∧ cN l j ≤ 1000000 := fun j hj => by have := hall j hj; unfold cN; omega
        have HCN := hid hcN
        have HCe := hid (fun j hj => (show w0.cell? ⟨b, off + j, none⟩ = some (.int .i64 (cN l j : Int)) from by rw [← (hcN j hj).1]; exact hc j hj))
        have HSle := hid (fun k (hk : k < l.length) => smN_le l nn dd 1000000 (by omega) k (fun j hj => (hcN j (by omega)).2))
        have HSs := hid (show ∀ k, smN l nn dd (k + 1) = smN l nn dd k * (dd - nn) + cN l (k + 1) * nn * dd ^ k from fun k => rfl)
        have HS0 := hid (show smN l nn dd 0 = cN l 0 from rfl)
        have HPs := hid (show ∀ k, dd ^ (k + 1) = dd ^ k * dd from fun k => Nat.pow_succ dd k)
        have HP6 := hid (fun k (hk : k ≤ 6) => pow_den6 (den := dd) (k := k) (by omega) hk)
        have HP7 := hid (fun k (hk : k ≤ 7) => pow_den (den := dd) (k := k) (by omega) hk)
        have HPp := hid (fun k => Nat.pow_pos (n := k) (show 0 < dd by omega))
        have k0 := HCe.out 0 (by omega)
        rw [Nat.add_zero] at k0
        have HMM := hid (show (dd : Int) - (nn : Int) = ((dd - nn : Nat) : Int) by omega)
        have hm10 : dd - nn ≤ 10 := by omega
        have hd10 : dd ≤ 10 := by omega
        have hn10 : nn ≤ 10 := by omega
        have hp1 : (1 : Int) ≤ (l.length : Int) := by omega
        have hpp : 0 < l.length := by omega
        have HGc := hid (fun W => fraction_any (smN l nn dd (l.length - 1)) (dd ^ (l.length - 1)) W (by have := HSle.out (l.length - 1) (by omega); have := HP7.out (l.length - 1) (by omega); omega) (by have := HP7.out (l.length - 1) (by omega); omega) (HPp.out _))
        generalize dd - nn = m at *
        clear hA2 hsb HA hall h8 hc hcN HI
        go_wp2
        go_loop [9, 10, 11] (fun s v t => ∃ j : Nat, 1 ≤ j ∧ j ≤ l.length ∧ t = .int .i64 j ∧ s = .int .i64 (smN l nn dd (j - 1) : Nat) ∧ v = .int .i64 (dd ^ (j - 1) : Nat)) (fun _ _ t => l.length - (intOf t).toNat)
        case atStart => exact ⟨1, Nat.le_refl _, hpp, rfl, by rw [Nat.sub_self, HS0.out], by rw [Nat.sub_self, Nat.pow_zero]; rfl⟩
        case round =>
          obtain ⟨j, hj1, hj, rfl, rfl, rfl⟩ := hrel
          clear k0 hdk
          by_cases hjl : j < l.length
          · obtain ⟨i, rfl⟩ : ∃ i, j = i + 1 := ⟨j - 1, by omega⟩
            rw [Nat.add_sub_cancel]
            have c1 := HCe.out (i + 1) hjl
            have hx := (HCN.out (i + 1) hjl).2
            have hS := HSle.out i (by omega)
            have hP := HP6.out i (by omega)
            have HSk := hid (HSs.out i)
            have HPk := hid (HPs.out i)
            have hM := HMM.out
            generalize smN l nn dd i = S at *
            generalize cN l (i + 1) = xx at *
            generalize dd ^ i = P at *
            obtain ⟨y1, y2, y3, y4⟩ := sm_bds hS hP hm10 hx hn10 hd10
            go_wp2
            go_round
            case rel => exact ⟨i + 1 + 1, by omega, by omega, by go_num, by rw [Nat.add_sub_cancel, HSk.out, Int.natCast_add, Int.natCast_mul, Int.natCast_mul, Int.natCast_mul], by rw [Nat.add_sub_cancel, HPk.out, Int.natCast_mul]⟩
            case measure => simp [intOf]; omega
          · have hje : j = l.length := by omega
            have HGk := hid (fun W => (show Calls Try.prog 20 #[.int .i64 (smN l nn dd (j - 1) : Int), .int .i64 (dd ^ (j - 1) : Nat)] W (RatR W (fracL (smN l nn dd (j - 1)) (dd ^ (j - 1)))) from by rw [hje]; exact HGc.out W))
            have HE4 := hid (show smoothV l nn dd = (fracL (smN l nn dd (j - 1)) (dd ^ (j - 1)), 0) by rw [HE3.out, hje])
            have hjl2 : ¬ ((j : Int) < (l.length : Int)) := by omega
            clear hje
            generalize fracL (smN l nn dd (j - 1)) (dd ^ (j - 1)) = ff at *
            generalize smN l nn dd (j - 1) = S at *
            generalize dd ^ (j - 1) = P at *
            obtain ⟨fx, fy⟩ := ff
            have HGm := hid (fun W => (HGk.out W).mono fun en w' hh => (show Below W.heap.size W w' ∧ en = .returned (.agg #[.int .i64 fx, .int .i64 fy]) from hh))
            clear a0 a1 f0 f1
            go_wp2_with fail
            refine (HGm.out _).mono ?_
            rintro e w4 ⟨q4, rfl⟩
            have V4 := hid (HV.out.keep q4)
            have P4 := hid (HB0.out.trans (q4.mono HB0.out.size))
            clear q4
            obtain ⟨a0, a1, f0, f1⟩ := V4.out
            obtain ⟨t0, t1⟩ := set2_cells w4 w.heap.size (.int .i64 fx) (.int .i64 fy) _ _ a0 a1
            have HZ9 := hid ((P4.out.setCell (p := ⟨w.heap.size, 0, none⟩) (Nat.le_refl _) (.int .i64 fx)).setCell (p := ⟨w.heap.size, 1, none⟩) (Nat.le_refl _) (.int .i64 fy))
            go_wp2
            exact bodyPost_ret (v := .tuple #[.agg #[.int .i64 fx, .int .i64 fy], .int .i64 0]) (by simp [results, Try.results12, go_sem, t0, t1]) rfl ⟨HZ9.out, by rw [HE4.out]⟩
end Go.Proofs.Ytfjncmhbpfcdiab
