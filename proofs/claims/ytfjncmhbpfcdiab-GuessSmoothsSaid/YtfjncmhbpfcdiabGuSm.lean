/- Smoothed numbers: package guess. -/
import Derived.Test.YtfjncmhbpfcdiabGuFr
import Derived.Test.YtfjncmhbpfcdiabGuSmM
import Derived.Test.YtfjncmhbpfcdiabGuKn
set_option linter.unusedVariables false
namespace Go.Proofs.Ytfjncmhbpfcdiab
open Go.RowKit

def smoothV (l : List Int) (num den : Int) : (Int × Int) × Int := if smB l num den = true then (if 8 < l.length then ((0, 0), 4) else (fracL (smN l num.toNat den.toNat (l.length - 1)) (den.toNat ^ (l.length - 1)), 0)) else ((0, 0), 1)
def RatE (w : World) (p : (Int × Int) × Int) (en : Ending) (w' : World) : Prop := Below w.heap.size w w' ∧ en = .returned (.tuple #[.agg #[.int .i64 p.1.1, .int .i64 p.1.2], .int .i64 p.2])
set_option maxRecDepth 100000 in
set_option maxHeartbeats 2000000 in
theorem gSmoothable_any (a : Option Addr) (l : List Int) (cap : Nat) (num den : Int) (w : World) (h : Ints w a l) :
  Calls Try.prog 21 #[.slice a l.length cap, .int .i64 num, .int .i64 den] w (SaysG w (smB l num den)) := by
  have hlen := h.len
  have HH := hid h
  have HE := hid (show smB l num den = (allC 1000000 l && (decide (0 < l.length) && (cinB den 1 10 && cinB num 0 den))) from rfl)
  have HW := hid (fun x W => gWithin_any x 0 1000000 W)
  have HD := hid (fun W => gWithin_any den 1 10 W)
  have HN := hid (fun W => gWithin_any num 0 den W)
  clear h
  go_enter Try.func21, Try.ntmps21
  go_wp2
  go_loop [11] (fun i => ∃ k : Nat, k ≤ l.length ∧ i = .int .i64 k ∧ Hid (allC 1000000 l = allC 1000000 (l.drop k))) (fun i => l.length - (intOf i).toNat)
  case atStart => exact ⟨0, Nat.zero_le _, rfl, rfl⟩
  case round =>
    obtain ⟨k, hk, rfl, HA⟩ := hrel
    by_cases hlt : k < l.length
    · rcases HH.out.at_ with e | ⟨b, off, rfl, hc⟩
      · rw [e] at hlt; simp at hlt
      have c0 := hc k hlt
      have HDa := hid (allC_drop 1000000 l k hlt)
      clear hc
      rw [show l[k]?.getD 0 = cAt l k from rfl] at c0
      have HWk := hid (fun W => HW.out (cAt l k) W)
      have HI := hid (show cinB (cAt l k) 0 1000000 = decide (0 ≤ cAt l k ∧ cAt l k ≤ 1000000) from rfl)
      generalize cAt l k = x at *
      by_cases hx : 0 ≤ x ∧ x ≤ 1000000
      · have HI2 := hid ((HI.out).trans (decide_eq_true hx))
        rw [HI2.out] at HWk
        have HA2 := hid (show allC 1000000 l = allC 1000000 (l.drop (k + 1)) by rw [HA.out, HDa.out, decide_eq_true hx, Bool.true_and])
        clear HI HI2 HA HDa hx
        go_wp2_with fail
        refine (HWk.out _).mono ?_
        rintro e w1 ⟨rfl, rfl⟩
        go_wp2
        go_round
        case rel => exact ⟨k + 1, by omega, by go_num, HA2⟩
        case measure => simp [intOf]; omega
      · have HI2 := hid ((HI.out).trans (decide_eq_false hx))
        rw [HI2.out] at HWk
        have HF := hid (show smB l num den = false by rw [HE.out, HA.out, HDa.out, decide_eq_false hx]; simp)
        clear HI HI2 HA HDa hx
        go_wp2_with fail
        refine (HWk.out _).mono ?_
        rintro e w1 ⟨rfl, rfl⟩
        go_wp2
        go_ret
        exact ⟨rfl, by rw [HF.out]; rfl⟩
    · have hA2 : allC 1000000 l = true := by rw [HA.out, List.drop_of_length_le (by omega)]; rfl
      have HE2 := hid (show smB l num den = (decide (0 < l.length) && (cinB den 1 10 && cinB num 0 den)) by rw [HE.out, hA2, Bool.true_and])
      clear HA hA2 HE
      by_cases hz : 0 < l.length
      · have hz' : (0 : Int) < (l.length : Int) := by omega
        rw [decide_eq_true hz] at HE2
        clear hz
        cases hd : cinB den 1 10 with
        | false =>
          rw [hd] at HD HE2
          clear hd
          go_wp2_with fail
          refine (HD.out _).mono ?_
          rintro e w1 ⟨rfl, rfl⟩
          go_wp2
          go_ret
          exact ⟨rfl, by rw [HE2.out]; rfl⟩
        | true =>
          rw [hd] at HD HE2
          clear hd
          cases hn : cinB num 0 den
          all_goals
            rw [hn] at HN HE2
            clear hn
            go_wp2_with fail
            refine (HD.out _).mono ?_
            rintro e w1 ⟨rfl, rfl⟩
            go_wp2_with fail
            refine (HN.out _).mono ?_
            rintro e w1 ⟨rfl, rfl⟩
            go_wp2
            go_ret
            exact ⟨rfl, by rw [HE2.out]; rfl⟩
      · have hz' : (l.length : Int) ≤ 0 := by omega
        have hz2 : decide ((0 : Int) < (l.length : Int)) = false := decide_eq_false (by omega)
        rw [decide_eq_false hz] at HE2
        clear hz
        go_wp2
        go_ret
        exact ⟨rfl, by rw [HE2.out]; first | rfl | (simp; omega)⟩

theorem sm_bds {S m x num P den : Nat} (hS : S ≤ 1000000 * P) (hP : P ≤ 1000000) (hm : m ≤ 10) (hx : x ≤ 1000000) (hn : num ≤ 10) (hd : den ≤ 10) :
  (0 ≤ (S : Int) * (m : Int) ∧ (S : Int) * (m : Int) ≤ 10000000000000) ∧ (0 ≤ (x : Int) * (num : Int) ∧ (x : Int) * (num : Int) ≤ 10000000) ∧ (0 ≤ (x : Int) * (num : Int) * (P : Int) ∧ (x : Int) * (num : Int) * (P : Int) ≤ 10000000000000) ∧ (0 ≤ (P : Int) * (den : Int) ∧ (P : Int) * (den : Int) ≤ 10000000) := by
  have h0 : S ≤ 1000000000000 := Nat.le_trans hS (by omega)
  have a := Nat.mul_le_mul h0 hm
  have b := Nat.mul_le_mul hx hn
  have c := Nat.mul_le_mul b hP
  have d := Nat.mul_le_mul hP hd
  rw [← Int.natCast_mul, ← Int.natCast_mul, ← Int.natCast_mul, ← Int.natCast_mul]
  omega
theorem pow_den {den k : Nat} (hd : den ≤ 10) (hk : k ≤ 7) : den ^ k ≤ 10000000 := by
  have h1 : den ^ k ≤ 10 ^ k := Nat.pow_le_pow_left hd k
  have h2 : 10 ^ k ≤ 10 ^ 7 := Nat.pow_le_pow_right (by omega) hk
  omega
theorem pow_den6 {den k : Nat} (hd : den ≤ 10) (hk : k ≤ 6) : den ^ k ≤ 1000000 := by
  have h1 : den ^ k ≤ 10 ^ k := Nat.pow_le_pow_left hd k
  have h2 : 10 ^ k ≤ 10 ^ 6 := Nat.pow_le_pow_right (by omega) hk
  omega
set_option maxRecDepth 100000 in
set_option maxHeartbeats 4000000 in
theorem gSmooth_any (a : Option Addr) (l : List Int) (cap : Nat) (num den : Int) (w : World) (h : Ints w a l) (hcap : l.length ≤ cap) :
  Calls Try.prog 11 #[.slice a l.length cap, .int .i64 num, .int .i64 den] w (RatE w (smoothV l num den)) := by
  have hlen := h.len
  have hB0 := (Below.refl w.heap.size w).alloc (Nat.le_refl _) (.cells #[.int .i64 0, .int .i64 0] 28)
  have HV := hid (Var2.made w)
  have HS := hid (gSmoothable_any a l cap num den _ (h.below hB0))
  have HI := hid (h.below hB0)
  have HE := hid (show smoothV l num den = if smB l num den = true then (if 8 < l.length then ((0, 0), 4) else (fracL (smN l num.toNat den.toNat (l.length - 1)) (den.toNat ^ (l.length - 1)), 0)) else ((0, 0), 1) from rfl)
  generalize hw0 : w.alloc (.cells #[.int .i64 0, .int .i64 0] 28) = w0 at *
  have HB0 := hid hB0
  clear hB0
  obtain ⟨a0, a1, f0, f1⟩ := HV.out
  have zt := set2_cells w0 w.heap.size (.int .i64 0) (.int .i64 0) _ _ a0 a1
  have HZt := hid zt
  have HZb := hid ((HB0.out.setCell (p := ⟨w.heap.size, 0, none⟩) (Nat.le_refl _) (.int .i64 0)).setCell (p := ⟨w.heap.size, 1, none⟩) (Nat.le_refl _) (.int .i64 0))
  clear zt
  cases hsb : smB l num den with
  | false =>
    rw [hsb] at HS
    have HE2 := hid ((HE.out).trans (if_neg (by rw [hsb]; simp)))
    clear hsb HE h
    go_enter Try.func11, Try.ntmps11
    go_wp2_with fail
    clear hw0
    refine HS.out.mono ?_
    rintro e w1 ⟨rfl, rfl⟩
    go_wp2
    obtain ⟨t0, t1⟩ := HZt.out
    exact bodyPost_ret (v := .tuple #[.agg #[.int .i64 0, .int .i64 0], .int .i64 1]) (by simp [results, Try.results11, go_sem, t0, t1]) rfl ⟨HZb.out, by rw [HE2.out]⟩
  | true =>
    rw [hsb] at HS
    have HE2 := hid ((HE.out).trans (if_pos hsb))
    obtain ⟨hall, hpos, hd9, hn9⟩ := smB_ok hsb
    by_cases h8 : 8 < l.length
    · have h8' : (8 : Int) < (l.length : Int) := by omega
      have HE3 := hid ((HE2.out).trans (if_pos h8))
      clear hsb HE h h8 HE2 hall
      go_enter Try.func11, Try.ntmps11
      go_wp2_with fail
      clear hw0
      refine HS.out.mono ?_
      rintro e w1 ⟨rfl, rfl⟩
      go_wp2
      obtain ⟨t0, t1⟩ := HZt.out
      exact bodyPost_ret (v := .tuple #[.agg #[.int .i64 0, .int .i64 0], .int .i64 4]) (by simp [results, Try.results11, go_sem, t0, t1]) rfl ⟨HZb.out, by rw [HE3.out]⟩
    · have h8' : (l.length : Int) ≤ 8 := by omega
      have HE3 := hid ((HE2.out).trans (if_neg h8))
      obtain ⟨nn, rfl⟩ := Int.eq_ofNat_of_zero_le hn9.1
      obtain ⟨dd, rfl⟩ := Int.eq_ofNat_of_zero_le (show 0 ≤ den by omega)
      rw [Int.toNat_natCast, Int.toNat_natCast] at HE3
      rcases HI.out.at_ with e | ⟨b, off, rfl, hc⟩
      · rw [e] at hpos; simp at hpos
      have hcN : ∀ j, j < l.length → (cAt l j = (cN l j : Int)) ∧ cN l j ≤ 1000000 := fun j hj => by have := hall j hj; unfold cN; omega
      have HCN := hid hcN
      have HCe := hid (fun j hj => (show w0.cell? ⟨b, off + j, none⟩ = some (.int .i64 (cN l j : Int)) from by rw [← (hcN j hj).1]; exact hc j hj))
      have HSle := hid (fun k (hk : k < l.length) => smN_le l nn dd 1000000 (by omega) k (fun j hj => (hcN j (by omega)).2))
      have HSs := hid (show ∀ k, smN l nn dd (k + 1) = smN l nn dd k * (dd - nn) + cN l (k + 1) * nn * dd ^ k from fun k => rfl)
      have HS0 := hid (show smN l nn dd 0 = cN l 0 from rfl)
      have HPs := hid (show ∀ k, dd ^ (k + 1) = dd ^ k * dd from fun k => Nat.pow_succ dd k)
      have HP6 := hid (fun k (hk : k ≤ 6) => pow_den6 (den := dd) (k := k) (by omega) hk)
      have HP7 := hid (fun k (hk : k ≤ 7) => pow_den (den := dd) (k := k) (by omega) hk)
      have HPp := hid (fun k => Nat.pow_pos (n := k) (show 0 < dd by omega))
      have k0 := HCe.out 0 hpos
      rw [Nat.add_zero] at k0
      have hMM : (dd : Int) - (nn : Int) = ((dd - nn : Nat) : Int) := by omega
      have HMM := hid hMM
      have hm10 : dd - nn ≤ 10 := by omega
      have hd10 : dd ≤ 10 := by omega
      have hn10 : nn ≤ 10 := by omega
      have hp1 : (1 : Int) ≤ (l.length : Int) := by omega
      have hpc : (1 : Int) ≤ (cap : Int) := by omega
      have HGc := hid (fun W => gCdiv_rec (dd ^ (l.length - 1)) (smN l nn dd (l.length - 1)) W (by have := HSle.out (l.length - 1) (by omega); have := HP7.out (l.length - 1) (by omega); omega) (by have := HP7.out (l.length - 1) (by omega); omega))
      generalize dd - nn = m at *
      clear hsb HE h h8 HE2 hc hcN HI hMM hall
      by_cases hcc : cap = 1
      · obtain rfl := hcc
        have hc5 : 1 ≤ l.length := by omega
        go_enter Try.func11, Try.ntmps11
        go_wp2_with fail
        clear hw0
        refine HS.out.mono ?_
        rintro e w1 ⟨rfl, rfl⟩
        go_wp2
        go_loop [8, 9, 29] (fun s v t => ∃ k : Nat, k ≤ l.length - 1 ∧ t = .int .i64 k ∧ s = .int .i64 (smN l nn dd k : Nat) ∧ v = .int .i64 (dd ^ k : Nat)) (fun _ _ t => l.length - 1 - (intOf t).toNat)
        case atStart => exact ⟨0, Nat.zero_le _, rfl, by rw [HS0.out], by rw [Nat.pow_zero]; rfl⟩
        case round =>
          obtain ⟨k, hk, rfl, rfl, rfl⟩ := hrel
          by_cases hlt : k < l.length - 1
          · omega
          · have hke : k = l.length - 1 := by omega
            have HGk := hid (fun W => (show Calls Try.prog 22 #[.int .i64 (smN l nn dd k : Int), .int .i64 (dd ^ k : Nat)] W (NumG W (Nat.gcd (smN l nn dd k) (dd ^ k) : Nat)) from by rw [hke]; exact HGc.out W))
            have HE4 := hid (show smoothV l nn dd = (fracL (smN l nn dd k) (dd ^ k), 0) by rw [HE3.out, hke])
            have HEk := hid hke
            have hS := HSle.out k (by omega)
            have hP := HP7.out k (by omega)
            have hPp := HPp.out k
            have hdl : decide (k < l.length - 1) = false := decide_eq_false hlt
            clear hke
            generalize smN l nn dd k = S at *
            generalize dd ^ k = P at *
            have hg : 0 < Nat.gcd S P := Nat.gcd_pos_of_pos_right _ hPp
            have h1 := tdiv_nat S (Nat.gcd S P)
            have h2 := tdiv_nat P (Nat.gcd S P)
            have b1 := Nat.div_le_self S (Nat.gcd S P)
            have b2 := Nat.div_le_self P (Nat.gcd S P)
            have HFr := hid (show fracL S P = (((S / Nat.gcd S P : Nat) : Int), ((P / Nat.gcd S P : Nat) : Int)) from rfl)
            generalize S / Nat.gcd S P = s2 at *
            generalize P / Nat.gcd S P = p2 at *
            generalize Nat.gcd S P = gd at *
            have hgz : (gd : Int) ≠ 0 := by omega
            have hw1 : IntKind.i64.wrap (s2 : Int) = (s2 : Int) := IntWalk.i64_in _ (by omega)
            have hw2 : IntKind.i64.wrap (p2 : Int) = (p2 : Int) := IntWalk.i64_in _ (by omega)
            obtain ⟨t0, t1⟩ := set2_cells w0 w.heap.size (.int .i64 (s2 : Int)) (.int .i64 (p2 : Int)) _ _ a0 a1
            have HZ9 := hid (((HB0.out.setCell (p := ⟨w.heap.size, 0, none⟩) (Nat.le_refl _) (.int .i64 (s2 : Int))).setCell (p := ⟨w.heap.size, 1, none⟩) (Nat.le_refl _) (.int .i64 (p2 : Int))).drew)
            clear hlt k0
            go_wp2_with fail
            refine (HGk.out _).mono ?_
            rintro e w1 ⟨rfl, rfl⟩
            go_wp2
            go_region
            all_goals
              go_wp2
              exact bodyPost_ret (v := .tuple #[.agg #[.int .i64 (s2 : Int), .int .i64 (p2 : Int)], .int .i64 0]) (by simp [results, Try.results11, go_sem, t0, t1]) rfl ⟨HZ9.out, by rw [HE4.out, HFr.out]⟩
      · have hc2 : ¬ (1 = cap) := by omega
        have hc3 : 1 < cap := by omega
        have hc4 : (1 : Int) < (cap : Int) := by omega
        have hc5 : 1 ≤ l.length := by omega
        have hc6 : 1 ≤ cap := by omega
        go_enter Try.func11, Try.ntmps11
        go_wp2_with fail
        clear hw0
        refine HS.out.mono ?_
        rintro e w1 ⟨rfl, rfl⟩
        go_wp2
        go_loop [8, 9, 29] (fun s v t => ∃ k : Nat, k ≤ l.length - 1 ∧ t = .int .i64 k ∧ s = .int .i64 (smN l nn dd k : Nat) ∧ v = .int .i64 (dd ^ k : Nat)) (fun _ _ t => l.length - 1 - (intOf t).toNat)
        case atStart => exact ⟨0, Nat.zero_le _, rfl, by rw [HS0.out], by rw [Nat.pow_zero]; rfl⟩
        case round =>
          obtain ⟨k, hk, rfl, rfl, rfl⟩ := hrel
          by_cases hlt : k < l.length - 1
          · have c1 := HCe.out (k + 1) (by omega)
            rw [Nat.add_comm k 1, ← Nat.add_assoc] at c1
            rw [Nat.add_comm 1 k] at c1
            have hx := (HCN.out (k + 1) (by omega)).2
            have hS := HSle.out k (by omega)
            have hP := HP6.out k (by omega)
            have HSk := hid (HSs.out k)
            have HPk := hid (HPs.out k)
            have hM := HMM.out
            have hdl : decide (k < l.length - 1) = true := decide_eq_true hlt
            generalize smN l nn dd k = S at *
            generalize cN l (k + 1) = xx at *
            generalize dd ^ k = P at *
            obtain ⟨y1, y2, y3, y4⟩ := sm_bds hS hP hm10 hx hn10 hd10
            go_wp2
            go_round
            case rel => exact ⟨k + 1, by omega, by go_num, by rw [HSk.out, Int.natCast_add, Int.natCast_mul, Int.natCast_mul, Int.natCast_mul], by rw [HPk.out, Int.natCast_mul]⟩
            case measure => simp [intOf]; omega
          · have hke : k = l.length - 1 := by omega
            have HGk := hid (fun W => (show Calls Try.prog 22 #[.int .i64 (smN l nn dd k : Int), .int .i64 (dd ^ k : Nat)] W (NumG W (Nat.gcd (smN l nn dd k) (dd ^ k) : Nat)) from by rw [hke]; exact HGc.out W))
            have HE4 := hid (show smoothV l nn dd = (fracL (smN l nn dd k) (dd ^ k), 0) by rw [HE3.out, hke])
            have HEk := hid hke
            have hS := HSle.out k (by omega)
            have hP := HP7.out k (by omega)
            have hPp := HPp.out k
            have hdl : decide (k < l.length - 1) = false := decide_eq_false hlt
            clear hke
            generalize smN l nn dd k = S at *
            generalize dd ^ k = P at *
            have hg : 0 < Nat.gcd S P := Nat.gcd_pos_of_pos_right _ hPp
            have h1 := tdiv_nat S (Nat.gcd S P)
            have h2 := tdiv_nat P (Nat.gcd S P)
            have b1 := Nat.div_le_self S (Nat.gcd S P)
            have b2 := Nat.div_le_self P (Nat.gcd S P)
            have HFr := hid (show fracL S P = (((S / Nat.gcd S P : Nat) : Int), ((P / Nat.gcd S P : Nat) : Int)) from rfl)
            generalize S / Nat.gcd S P = s2 at *
            generalize P / Nat.gcd S P = p2 at *
            generalize Nat.gcd S P = gd at *
            have hgz : (gd : Int) ≠ 0 := by omega
            have hw1 : IntKind.i64.wrap (s2 : Int) = (s2 : Int) := IntWalk.i64_in _ (by omega)
            have hw2 : IntKind.i64.wrap (p2 : Int) = (p2 : Int) := IntWalk.i64_in _ (by omega)
            obtain ⟨t0, t1⟩ := set2_cells w0 w.heap.size (.int .i64 (s2 : Int)) (.int .i64 (p2 : Int)) _ _ a0 a1
            have HZ9 := hid (((HB0.out.setCell (p := ⟨w.heap.size, 0, none⟩) (Nat.le_refl _) (.int .i64 (s2 : Int))).setCell (p := ⟨w.heap.size, 1, none⟩) (Nat.le_refl _) (.int .i64 (p2 : Int))).drew)
            clear hlt k0
            go_wp2_with fail
            refine (HGk.out _).mono ?_
            rintro e w1 ⟨rfl, rfl⟩
            go_wp2
            go_region
            all_goals
              go_wp2
              exact bodyPost_ret (v := .tuple #[.agg #[.int .i64 (s2 : Int), .int .i64 (p2 : Int)], .int .i64 0]) (by simp [results, Try.results11, go_sem, t0, t1]) rfl ⟨HZ9.out, by rw [HE4.out, HFr.out]⟩
end Go.Proofs.Ytfjncmhbpfcdiab
