/- Steps below a limit: package kitchen; the document's own heat. -/
import Derived.Test.YteolckphafblmabKiHt
set_option linter.unusedVariables false
namespace Go.Proofs.Yteolckphafblmab
open Go.RowKit

def TripQ (w : World) (v : Int × Bool × Int) (en : Ending) (w' : World) : Prop := w = w' ∧ en = .returned (.tuple #[.int .i64 v.1, .bool v.2.1, .int .i64 v.2.2])
def BolQ (w : World) (v : Bool × Int) (en : Ending) (w' : World) : Prop := w = w' ∧ en = .returned (.tuple #[.bool v.1, .int .i64 v.2])
def SbQ (w : World) (v : Int × Bool) (en : Ending) (w' : World) : Prop := w = w' ∧ en = .returned (.tuple #[.int .i64 v.1, .bool v.2])
def stpV (h a n d lim : Int) : Int × Bool × Int := if (crsB h a n d && zin lim (-2000) 2000) = true then ((belowK h a n d lim 1001 0).1, (belowK h a n d lim 1001 0).2, 0) else (0, false, 1)
def hldV (h a n d s lim : Int) : Bool × Int := if (crsB h a n d && (zin s 0 1000 && zin lim (-2000) 2000)) = true then (!(belowK h a n d lim (s.toNat + 1) 0).2, 0) else (false, 1)
def hotB (h a n d s : Int) : Bool := crsB h a n d && zin s 0 1000
set_option maxRecDepth 100000 in
set_option maxHeartbeats 1000000 in
theorem kSteps_any (h a n d lim : Int) (m : Nat) (w : World) (hm : m ≤ 1000) (ht : -2000 ≤ h ∧ h ≤ 2000) (ha : -2000 ≤ a ∧ a ≤ 2000) (hd : 1 ≤ d ∧ d ≤ 100) (hn : 0 ≤ n ∧ n ≤ d) : Calls Try.prog 24 #[.int .i64 h, .int .i64 a, .int .i64 n, .int .i64 d, .int .i64 lim, .int .i64 (m : Int)] w (SbQ w (belowK h a n d lim (m + 1) 0)) := by
  have HS := hid (fun k => kCooler_any (coolN h a n d k) a n d w (coolN_bd ht ha hd.1 hn k) ha hd hn)
  have HY := hid (fun f k (hc : coolN h a n d k < lim) => belowK_yes (f := f) hc)
  have HN := hid (fun f k (hc : ¬ coolN h a n d k < lim) => belowK_no (f := f) hc)
  clear ht ha hd hn
  go_enter Try.func24, Try.ntmps24
  go_wp2
  go_loop [0, 17] (fun t i => ∃ (k : Nat), k ≤ m + 1 ∧ i = .int .i64 k ∧ t = .int .i64 (coolN h a n d k) ∧ Hid (belowK h a n d lim (m + 1) 0 = belowK h a n d lim (m + 1 - k) k)) (fun _ i => m + 1 - (intOf i).toNat)
  case atStart => exact ⟨0, Nat.zero_le _, rfl, rfl, rfl⟩
  case round =>
    obtain ⟨k, hk, rfl, rfl, HT⟩ := hrel
    by_cases hlt : k < m + 1
    · have hlt' : (k : Int) < (m : Int) + 1 := by omega
      have HK := hid (HS.out k)
      obtain ⟨f, hf⟩ : ∃ f, m + 1 - k = f + 1 := ⟨m - k, by omega⟩
      have HF := hid (show m + 1 - (k + 1) = f by omega)
      rw [hf] at HT
      have HY1 := hid (HY.out f k)
      have HN1 := hid (HN.out f k)
      clear HS HY HN hf
      by_cases hc : coolN h a n d k < lim
      · have HR := hid ((HT.out).trans (HY1.out hc))
        clear HY1 HN1 HT HK HF
        generalize coolN h a n d k = v at *
        go_wp2
        go_ret2
        exact ⟨rfl, by rw [HR.out]; first | rfl | skip⟩
      · have HR := hid ((HT.out).trans (HN1.out (by omega)))
        have hc' : lim ≤ coolN h a n d k := by omega
        clear HY1 HN1 HT hc
        generalize hv : coolN h a n d k = v at *
        have HV := hid hv
        clear hv
        go_wp2_with fail
        refine HK.out.mono ?_
        rintro e w1 ⟨rfl, rfl⟩
        go_wp2
        go_round
        case rel => exact ⟨k + 1, by omega, by go_num, by rw [← HV.out]; rfl, by unfold Hid; rw [HF.out]; exact HR.out⟩
        case measure => simp [intOf]; omega
    · obtain rfl : k = m + 1 := by omega
      have HR := hid (show belowK h a n d lim (m + 1) 0 = (0, false) by rw [HT.out, Nat.sub_self]; rfl)
      clear HT
      have hge : (m : Int) + 1 ≤ ((m + 1 : Nat) : Int) := by omega
      go_wp2
      go_ret2
      exact ⟨rfl, by rw [HR.out]; first | rfl | skip⟩
set_option maxRecDepth 100000 in
set_option maxHeartbeats 1000000 in
theorem kStepsP_any (h a n d lim : Int) (w : World) : Calls Try.prog 12 #[.int .i64 h, .int .i64 a, .int .i64 n, .int .i64 d, .int .i64 lim] w (TripQ w (stpV h a n d lim)) := by
  have HE := hid (show stpV h a n d lim = if (crsB h a n d && zin lim (-2000) 2000) = true then ((belowK h a n d lim (1000 + 1) 0).1, (belowK h a n d lim (1000 + 1) 0).2, 0) else (0, false, 1) from rfl)
  have C0 := hid (kCourse_any h a n d)
  have C1 := hid (kHeat_any lim)
  cases g0 : crsB h a n d with
  | false =>
    rw [g0] at C0
    have HR := hid ((HE.out).trans (if_neg (by simp [g0])))
    clear g0 HE
    go_enter Try.func12, Try.ntmps12
    go_wp2_with fail
    refine (C0.out _).mono ?_
    rintro e w1 ⟨rfl, rfl⟩
    go_wp2
    go_ret3
    exact ⟨rfl, by rw [HR.out]; first | rfl | skip⟩
  | true =>
    rw [g0] at C0
    cases g1 : zin lim (-2000) 2000 with
    | false =>
      rw [g1] at C1
      have HR := hid ((HE.out).trans (if_neg (by simp [g0, g1])))
      clear g0 g1 HE
      go_enter Try.func12, Try.ntmps12
      go_wp2_with fail
      refine (C0.out _).mono ?_
      rintro e w1 ⟨rfl, rfl⟩
      go_wp2_with fail
      refine (C1.out _).mono ?_
      rintro e w1 ⟨rfl, rfl⟩
      go_wp2
      go_ret3
      exact ⟨rfl, by rw [HR.out]; first | rfl | skip⟩
    | true =>
      rw [g1] at C1
      have HR := hid ((HE.out).trans (if_pos (by simp [g0, g1])))
      obtain ⟨ht, ha, hd, hn⟩ := crs_ok g0
      have HS := hid (kSteps_any h a n d lim 1000 w (Nat.le_refl _) ht ha hd hn)
      clear g0 g1 HE ht ha hd hn
      generalize belowK h a n d lim (1000 + 1) 0 = r at *
      obtain ⟨r1, r2⟩ := r
      go_enter Try.func12, Try.ntmps12
      go_wp2_with fail
      refine (C0.out _).mono ?_
      rintro e w1 ⟨rfl, rfl⟩
      go_wp2_with fail
      refine (C1.out _).mono ?_
      rintro e w1 ⟨rfl, rfl⟩
      go_wp2_with fail
      refine HS.out.mono ?_
      rintro e w1 ⟨rfl, rfl⟩
      go_wp2
      go_ret3
      exact ⟨rfl, by rw [HR.out]; first | rfl | skip⟩
set_option maxRecDepth 100000 in
set_option maxHeartbeats 1000000 in
theorem kHoldsP_any (h a n d s lim : Int) (w : World) : Calls Try.prog 14 #[.int .i64 h, .int .i64 a, .int .i64 n, .int .i64 d, .int .i64 s, .int .i64 lim] w (BolQ w (hldV h a n d s lim)) := by
  have HE := hid (show hldV h a n d s lim = if (crsB h a n d && (zin s 0 1000 && zin lim (-2000) 2000)) = true then (!(belowK h a n d lim (s.toNat + 1) 0).2, 0) else (false, 1) from rfl)
  have C0 := hid (kCourse_any h a n d)
  have C1 := hid (kWithin_any s 0 1000)
  have C2 := hid (kHeat_any lim)
  cases g0 : crsB h a n d with
  | false =>
    rw [g0] at C0
    have HR := hid ((HE.out).trans (if_neg (by simp [g0])))
    clear g0 HE
    go_enter Try.func14, Try.ntmps14
    go_wp2_with fail
    refine (C0.out _).mono ?_
    rintro e w1 ⟨rfl, rfl⟩
    go_wp2
    go_ret2
    exact ⟨rfl, by rw [HR.out]; first | rfl | skip⟩
  | true =>
    rw [g0] at C0
    cases g1 : zin s 0 1000 with
    | false =>
      rw [g1] at C1
      have HR := hid ((HE.out).trans (if_neg (by simp [g0, g1])))
      clear g0 g1 HE
      go_enter Try.func14, Try.ntmps14
      go_wp2_with fail
      refine (C0.out _).mono ?_
      rintro e w1 ⟨rfl, rfl⟩
      go_wp2_with fail
      refine (C1.out _).mono ?_
      rintro e w1 ⟨rfl, rfl⟩
      go_wp2
      go_ret2
      exact ⟨rfl, by rw [HR.out]; first | rfl | skip⟩
    | true =>
      rw [g1] at C1
      cases g2 : zin lim (-2000) 2000 with
      | false =>
        rw [g2] at C2
        have HR := hid ((HE.out).trans (if_neg (by simp [g0, g1, g2])))
        clear g0 g1 g2 HE
        go_enter Try.func14, Try.ntmps14
        go_wp2_with fail
        refine (C0.out _).mono ?_
        rintro e w1 ⟨rfl, rfl⟩
        go_wp2_with fail
        refine (C1.out _).mono ?_
        rintro e w1 ⟨rfl, rfl⟩
        go_wp2_with fail
        refine (C2.out _).mono ?_
        rintro e w1 ⟨rfl, rfl⟩
        go_wp2
        go_ret2
        exact ⟨rfl, by rw [HR.out]; first | rfl | skip⟩
      | true =>
        rw [g2] at C2
        have HR := hid ((HE.out).trans (if_pos (by simp [g0, g1, g2])))
        obtain ⟨ht, ha, hd, hn⟩ := crs_ok g0
        have hs : 0 ≤ s ∧ s ≤ 1000 := by simpa [zin] using g1
        obtain ⟨m, rfl⟩ := Int.eq_ofNat_of_zero_le hs.1
        rw [Int.toNat_natCast] at HR
        have HS := hid (kSteps_any h a n d lim m w (by omega) ht ha hd hn)
        clear g0 g1 g2 HE ht ha hd hn hs
        generalize belowK h a n d lim (m + 1) 0 = r at *
        obtain ⟨r1, r2⟩ := r
        go_enter Try.func14, Try.ntmps14
        go_wp2_with fail
        refine (C0.out _).mono ?_
        rintro e w1 ⟨rfl, rfl⟩
        go_wp2_with fail
        refine (C1.out _).mono ?_
        rintro e w1 ⟨rfl, rfl⟩
        go_wp2_with fail
        refine (C2.out _).mono ?_
        rintro e w1 ⟨rfl, rfl⟩
        go_wp2_with fail
        refine HS.out.mono ?_
        rintro e w1 ⟨rfl, rfl⟩
        go_wp2
        go_ret2
        exact ⟨rfl, by rw [HR.out]; first | rfl | skip⟩
set_option maxRecDepth 100000 in
set_option maxHeartbeats 1000000 in
theorem krDown_any (p d : Int) (w : World) (hp : -400000 ≤ p ∧ p ≤ 400000) (hd : 1 ≤ d) : Calls Try.prog 26 #[.int .i64 p, .int .i64 d] w (NumK w (p / d)) := by
  obtain ⟨⟨q1, q2⟩, ⟨q3, q4⟩, q5, q6⟩ := quot_hi p d hp hd
  obtain ⟨p1, p2⟩ := hp
  have hdz : d ≠ 0 := by omega
  by_cases hc : p.tmod d < 0
  · have HN := hid (down_neg p d hd hc)
    go_enter Try.func26, Try.ntmps26
    go_wp2
    go_ret
    exact ⟨rfl, by rw [← HN.out]; first | rfl | skip⟩
  · have HN := hid (down_pos p d hd (by omega))
    have hc' : 0 ≤ p.tmod d := by omega
    clear hc
    go_enter Try.func26, Try.ntmps26
    go_wp2
    go_ret
    exact ⟨rfl, by rw [← HN.out]; first | rfl | skip⟩
set_option maxHeartbeats 400000 in
theorem krWithin_any (n lo hi : Int) (w : World) : Calls Try.prog 25 #[.int .i64 n, .int .i64 lo, .int .i64 hi] w (SaysK w (zin n lo hi)) := by
  by_cases h1 : lo ≤ n
  · by_cases h2 : n ≤ hi
    · rw [show zin n lo hi = true by simp [zin, h1, h2]]
      go_enter Try.func25, Try.ntmps25
      go_wp2
      go_ret
      exact ⟨rfl, ret_bool (by simp)⟩
    · rw [show zin n lo hi = false by simp [zin, h2]]
      have h2' : hi < n := by omega
      clear h2
      go_enter Try.func25, Try.ntmps25
      go_wp2
      go_ret
      exact ⟨rfl, ret_bool (by simp; omega)⟩
  · rw [show zin n lo hi = false by simp [zin, h1]]
    have h1' : n < lo := by omega
    clear h1
    go_enter Try.func25, Try.ntmps25
    go_wp2
    go_ret
    exact ⟨rfl, rfl⟩
set_option maxRecDepth 100000 in
set_option maxHeartbeats 1000000 in
theorem krCool_any (h a n d : Int) (m : Nat) (w : World) (hm : m ≤ 1000) (ht : -2000 ≤ h ∧ h ≤ 2000) (ha : -2000 ≤ a ∧ a ≤ 2000) (hd : 1 ≤ d ∧ d ≤ 100) (hn : 0 ≤ n ∧ n ≤ d) : Calls Try.prog 20 #[.int .i64 h, .int .i64 a, .int .i64 n, .int .i64 d, .int .i64 (m : Int)] w (NumK w (coolN h a n d m)) := by
  have HB := hid (fun k => coolN_bd ht ha hd.1 hn k)
  have HP := hid (fun x (hx : -4000 ≤ x ∧ x ≤ 4000) => prod_hi x n hx (by omega))
  have HQ := hid (fun p (hp : -400000 ≤ p ∧ p ≤ 400000) => (quot_hi p d hp hd.1).1)
  have HD := hid (fun p (hp : -400000 ≤ p ∧ p ≤ 400000) => krDown_any p d w hp hd.1)
  have HC := hid (show ∀ k, coolN h a n d (k + 1) = a + (coolN h a n d k - a) * n / d from fun k => rfl)
  obtain ⟨a1, a2⟩ := ha
  clear ht hd hn
  go_enter Try.func20, Try.ntmps20
  go_wp2
  go_loop [0, 11] (fun t i => ∃ (k : Nat), k ≤ m ∧ i = .int .i64 k ∧ t = .int .i64 (coolN h a n d k)) (fun _ i => m - (intOf i).toNat)
  case atStart => exact ⟨0, Nat.zero_le _, rfl, rfl⟩
  case round =>
    obtain ⟨k, hk, rfl, rfl⟩ := hrel
    by_cases hlt : k < m
    · have hlt' : (k : Int) < (m : Int) := by omega
      have hdl : decide (k < m) = true := decide_eq_true hlt
      obtain ⟨v1, v2⟩ := HB.out k
      have HK := hid (HC.out k)
      obtain ⟨p1, p2⟩ := HP.out (coolN h a n d k - a) (by omega)
      obtain ⟨q1, q2⟩ := HQ.out ((coolN h a n d k - a) * n) ⟨p1, p2⟩
      have HD1 := hid (HD.out ((coolN h a n d k - a) * n) ⟨p1, p2⟩)
      clear HB HP HQ HD HC
      generalize coolN h a n d k = v at *
      generalize hp : (v - a) * n = p at *
      generalize hq : p / d = q at *
      clear hq
      go_wp2_with fail
      refine HD1.out.mono ?_
      rintro e w1 ⟨rfl, rfl⟩
      go_wp2
      go_round
      case rel => exact ⟨k + 1, by omega, by go_num, by rw [HK.out]⟩
      case measure => simp [intOf]; omega
    · obtain rfl : k = m := by omega
      go_wp2
      go_ret
      exact ⟨rfl, rfl⟩
set_option maxRecDepth 100000 in
set_option maxHeartbeats 1000000 in
theorem krHeated_any (h a n d s : Int) (w : World) : Calls Try.prog 19 #[.int .i64 h, .int .i64 a, .int .i64 n, .int .i64 d, .int .i64 s] w (SaysK w (hotB h a n d s)) := by
  have C0 := hid (krWithin_any h (-2000) 2000)
  have C1 := hid (krWithin_any a (-2000) 2000)
  have C2 := hid (krWithin_any d 1 100)
  have C3 := hid (krWithin_any n 0 d)
  have C4 := hid (krWithin_any s 0 1000)
  cases g0 : zin h (-2000) 2000 with
  | false =>
    rw [g0] at C0
    have HR := hid (show hotB h a n d s = false by simp [hotB, crsB, g0])
    clear g0
    go_enter Try.func19, Try.ntmps19
    go_wp2_with fail
    refine (C0.out _).mono ?_
    rintro e w1 ⟨rfl, rfl⟩
    go_wp2
    go_ret
    exact ⟨rfl, by rw [HR.out]; rfl⟩
  | true =>
    rw [g0] at C0
    cases g1 : zin a (-2000) 2000 with
    | false =>
      rw [g1] at C1
      have HR := hid (show hotB h a n d s = false by simp [hotB, crsB, g0, g1])
      clear g0 g1
      go_enter Try.func19, Try.ntmps19
      go_wp2_with fail
      refine (C0.out _).mono ?_
      rintro e w1 ⟨rfl, rfl⟩
      go_wp2_with fail
      refine (C1.out _).mono ?_
      rintro e w1 ⟨rfl, rfl⟩
      go_wp2
      go_ret
      exact ⟨rfl, by rw [HR.out]; rfl⟩
    | true =>
      rw [g1] at C1
      cases g2 : zin d 1 100 with
      | false =>
        rw [g2] at C2
        have HR := hid (show hotB h a n d s = false by simp [hotB, crsB, g0, g1, g2])
        clear g0 g1 g2
        go_enter Try.func19, Try.ntmps19
        go_wp2_with fail
        refine (C0.out _).mono ?_
        rintro e w1 ⟨rfl, rfl⟩
        go_wp2_with fail
        refine (C1.out _).mono ?_
        rintro e w1 ⟨rfl, rfl⟩
        go_wp2_with fail
        refine (C2.out _).mono ?_
        rintro e w1 ⟨rfl, rfl⟩
        go_wp2
        go_ret
        exact ⟨rfl, by rw [HR.out]; rfl⟩
      | true =>
        rw [g2] at C2
        cases g3 : zin n 0 d with
        | false =>
          rw [g3] at C3
          have HR := hid (show hotB h a n d s = false by simp [hotB, crsB, g0, g1, g2, g3])
          clear g0 g1 g2 g3
          go_enter Try.func19, Try.ntmps19
          go_wp2_with fail
          refine (C0.out _).mono ?_
          rintro e w1 ⟨rfl, rfl⟩
          go_wp2_with fail
          refine (C1.out _).mono ?_
          rintro e w1 ⟨rfl, rfl⟩
          go_wp2_with fail
          refine (C2.out _).mono ?_
          rintro e w1 ⟨rfl, rfl⟩
          go_wp2_with fail
          refine (C3.out _).mono ?_
          rintro e w1 ⟨rfl, rfl⟩
          go_wp2
          go_ret
          exact ⟨rfl, by rw [HR.out]; rfl⟩
        | true =>
          rw [g3] at C3
          cases g4 : zin s 0 1000 with
          | false =>
            rw [g4] at C4
            have HR := hid (show hotB h a n d s = false by simp [hotB, crsB, g0, g1, g2, g3, g4])
            clear g0 g1 g2 g3 g4
            go_enter Try.func19, Try.ntmps19
            go_wp2_with fail
            refine (C0.out _).mono ?_
            rintro e w1 ⟨rfl, rfl⟩
            go_wp2_with fail
            refine (C1.out _).mono ?_
            rintro e w1 ⟨rfl, rfl⟩
            go_wp2_with fail
            refine (C2.out _).mono ?_
            rintro e w1 ⟨rfl, rfl⟩
            go_wp2_with fail
            refine (C3.out _).mono ?_
            rintro e w1 ⟨rfl, rfl⟩
            go_wp2_with fail
            refine (C4.out _).mono ?_
            rintro e w1 ⟨rfl, rfl⟩
            go_wp2
            go_ret
            exact ⟨rfl, by rw [HR.out]; rfl⟩
          | true =>
            rw [g4] at C4
            have HR := hid (show hotB h a n d s = true by simp [hotB, crsB, g0, g1, g2, g3, g4])
            clear g0 g1 g2 g3 g4
            go_enter Try.func19, Try.ntmps19
            go_wp2_with fail
            refine (C0.out _).mono ?_
            rintro e w1 ⟨rfl, rfl⟩
            go_wp2_with fail
            refine (C1.out _).mono ?_
            rintro e w1 ⟨rfl, rfl⟩
            go_wp2_with fail
            refine (C2.out _).mono ?_
            rintro e w1 ⟨rfl, rfl⟩
            go_wp2_with fail
            refine (C3.out _).mono ?_
            rintro e w1 ⟨rfl, rfl⟩
            go_wp2_with fail
            refine (C4.out _).mono ?_
            rintro e w1 ⟨rfl, rfl⟩
            go_wp2
            go_ret
            exact ⟨rfl, by rw [HR.out]; rfl⟩
theorem hot_ok {h a n d s : Int} (c : hotB h a n d s = true) : crsB h a n d = true ∧ 0 ≤ s ∧ s ≤ 1000 := by
  rw [hotB, Bool.and_eq_true] at c
  exact ⟨c.1, by simpa [zin] using c.2⟩
theorem hot_zero (h a n d : Int) : hotB h a n d 0 = crsB h a n d := by simp [hotB, zin]
set_option maxRecDepth 100000 in
set_option maxHeartbeats 1000000 in
theorem krCoolP_any (h a n d s : Int) (w : World) : Calls Try.prog 8 #[.int .i64 h, .int .i64 a, .int .i64 n, .int .i64 d, .int .i64 s] w (PairQ w (coolV h a n d s)) := by
  have HE := hid (show coolV h a n d s = if (hotB h a n d s) = true then (coolN h a n d s.toNat, 0) else (0, 1) from rfl)
  have C0 := hid (krHeated_any h a n d s)
  cases g0 : hotB h a n d s with
  | false =>
    rw [g0] at C0
    have HR := hid ((HE.out).trans (if_neg (by simp [g0])))
    clear g0 HE
    go_enter Try.func8, Try.ntmps8
    go_wp2_with fail
    refine (C0.out _).mono ?_
    rintro e w1 ⟨rfl, rfl⟩
    go_wp2
    go_ret2
    exact ⟨rfl, by rw [HR.out]; first | rfl | skip⟩
  | true =>
    rw [g0] at C0
    have HR := hid ((HE.out).trans (if_pos (by simp [g0])))
    obtain ⟨hc, hs⟩ := hot_ok g0
    obtain ⟨ht, ha, hd, hn⟩ := crs_ok hc
    obtain ⟨m, rfl⟩ := Int.eq_ofNat_of_zero_le hs.1
    rw [Int.toNat_natCast] at HR
    have HS := hid (krCool_any h a n d m w (by omega) ht ha hd hn)
    clear g0 HE ht ha hd hn hs hc
    go_enter Try.func8, Try.ntmps8
    go_wp2_with fail
    refine (C0.out _).mono ?_
    rintro e w1 ⟨rfl, rfl⟩
    go_wp2_with fail
    refine HS.out.mono ?_
    rintro e w1 ⟨rfl, rfl⟩
    go_wp2
    go_ret2
    exact ⟨rfl, by rw [HR.out]; first | rfl | skip⟩
set_option maxRecDepth 100000 in
set_option maxHeartbeats 1000000 in
theorem krWarmP_any (h a n d s : Int) (w : World) : Calls Try.prog 10 #[.int .i64 h, .int .i64 a, .int .i64 n, .int .i64 d, .int .i64 s] w (PairQ w (warmV h a n d s)) := by
  have HE := hid (show warmV h a n d s = if (hotB h a n d s) = true then (-coolN (-h) (-a) n d s.toNat, 0) else (0, 1) from rfl)
  have C0 := hid (krHeated_any h a n d s)
  cases g0 : hotB h a n d s with
  | false =>
    rw [g0] at C0
    have HR := hid ((HE.out).trans (if_neg (by simp [g0])))
    clear g0 HE
    go_enter Try.func10, Try.ntmps10
    go_wp2_with fail
    refine (C0.out _).mono ?_
    rintro e w1 ⟨rfl, rfl⟩
    go_wp2
    go_ret2
    exact ⟨rfl, by rw [HR.out]; first | rfl | skip⟩
  | true =>
    rw [g0] at C0
    have HR := hid ((HE.out).trans (if_pos (by simp [g0])))
    obtain ⟨hc, hs⟩ := hot_ok g0
    obtain ⟨ht, ha, hd, hn⟩ := crs_ok hc
    obtain ⟨m, rfl⟩ := Int.eq_ofNat_of_zero_le hs.1
    rw [Int.toNat_natCast] at HR
    have HS := hid (krCool_any (-h) (-a) n d m w (by omega) (by omega) (by omega) hd hn)
    have hb := coolN_bd (t := -h) (a := -a) (n := n) (d := d) (by omega) (by omega) hd.1 hn m
    obtain ⟨b1, b2⟩ := hb
    obtain ⟨t1, t2⟩ := ht
    obtain ⟨a1, a2⟩ := ha
    clear g0 HE hd hn hs hc
    generalize coolN (-h) (-a) n d m = v at *
    go_enter Try.func10, Try.ntmps10
    go_wp2_with fail
    refine (C0.out _).mono ?_
    rintro e w1 ⟨rfl, rfl⟩
    go_wp2_with fail
    refine HS.out.mono ?_
    rintro e w1 ⟨rfl, rfl⟩
    go_wp2
    go_ret2
    exact ⟨rfl, by rw [HR.out]; first | rfl | skip⟩
set_option maxRecDepth 100000 in
set_option maxHeartbeats 1000000 in
theorem krStepsP_any (h a n d lim : Int) (w : World) : Calls Try.prog 13 #[.int .i64 h, .int .i64 a, .int .i64 n, .int .i64 d, .int .i64 lim] w (TripQ w (stpV h a n d lim)) := by
  have HE := hid (show stpV h a n d lim = if (hotB h a n d 0 && zin lim (-2000) 2000) = true then ((belowK h a n d lim 1001 0).1, (belowK h a n d lim 1001 0).2, 0) else (0, false, 1) from by rw [hot_zero]; rfl)
  have C0 := hid (krHeated_any h a n d 0)
  have C1 := hid (krWithin_any lim (-2000) 2000)
  cases g0 : hotB h a n d 0 with
  | false =>
    rw [g0] at C0
    have HR := hid ((HE.out).trans (if_neg (by simp [g0])))
    clear g0 HE
    go_enter Try.func13, Try.ntmps13
    go_wp2_with fail
    refine (C0.out _).mono ?_
    rintro e w1 ⟨rfl, rfl⟩
    go_wp2
    go_ret3
    exact ⟨rfl, by rw [HR.out]; first | rfl | skip⟩
  | true =>
    rw [g0] at C0
    cases g1 : zin lim (-2000) 2000 with
    | false =>
      rw [g1] at C1
      have HR := hid ((HE.out).trans (if_neg (by simp [g0, g1])))
      clear g0 g1 HE
      go_enter Try.func13, Try.ntmps13
      go_wp2_with fail
      refine (C0.out _).mono ?_
      rintro e w1 ⟨rfl, rfl⟩
      go_wp2_with fail
      refine (C1.out _).mono ?_
      rintro e w1 ⟨rfl, rfl⟩
      go_wp2
      go_ret3
      exact ⟨rfl, by rw [HR.out]; first | rfl | skip⟩
    | true =>
      rw [g1] at C1
      have HR := hid ((HE.out).trans (if_pos (by simp [g0, g1])))
      rw [hot_zero] at g0
      obtain ⟨ht, ha, hd, hn⟩ := crs_ok g0
      have HS := hid (fun k => krCool_any (coolN h a n d k) a n d 1 w (by omega) (coolN_bd ht ha hd.1 hn k) ha hd hn)
      have HY := hid (fun f k (hc : coolN h a n d k < lim) => belowK_yes (f := f) hc)
      have HN := hid (fun f k (hc : ¬ coolN h a n d k < lim) => belowK_no (f := f) hc)
      clear g0 g1 HE ht ha hd hn
      go_enter Try.func13, Try.ntmps13
      go_wp2_with fail
      refine (C0.out _).mono ?_
      rintro e w1 ⟨rfl, rfl⟩
      go_wp2_with fail
      refine (C1.out _).mono ?_
      rintro e w1 ⟨rfl, rfl⟩
      go_wp2
      go_loop [0, 13] (fun t i => ∃ (k : Nat), k ≤ 1001 ∧ i = .int .i64 k ∧ t = .int .i64 (coolN h a n d k) ∧ Hid (belowK h a n d lim 1001 0 = belowK h a n d lim (1001 - k) k)) (fun _ i => 1001 - (intOf i).toNat)
      case atStart => exact ⟨0, Nat.zero_le _, rfl, rfl, rfl⟩
      case round =>
        obtain ⟨k, hk, rfl, rfl, HT⟩ := hrel
        by_cases hlt : k < 1001
        · have hlt' : (k : Int) ≤ 1000 := by omega
          have HK := hid (HS.out k)
          obtain ⟨f, hf⟩ : ∃ f, 1001 - k = f + 1 := ⟨1000 - k, by omega⟩
          have HF := hid (show 1001 - (k + 1) = f by omega)
          rw [hf] at HT
          have HY1 := hid (HY.out f k)
          have HN1 := hid (HN.out f k)
          clear HS HY HN hf
          by_cases hc : coolN h a n d k < lim
          · have HR2 := hid ((HT.out).trans (HY1.out hc))
            clear HY1 HN1 HT HK HF
            generalize coolN h a n d k = v at *
            go_wp2
            go_ret3
            exact ⟨rfl, by rw [HR.out, HR2.out]; first | rfl | skip⟩
          · have HR2 := hid ((HT.out).trans (HN1.out (by omega)))
            have hc' : lim ≤ coolN h a n d k := by omega
            clear HY1 HN1 HT hc
            generalize hv : coolN h a n d k = v at *
            have HV := hid hv
            clear hv
            rw [coolN_one] at HK
            go_wp2_with fail
            refine HK.out.mono ?_
            rintro e w1 ⟨rfl, rfl⟩
            go_wp2
            go_round
            case rel => exact ⟨k + 1, by omega, by go_num, by rw [← HV.out]; rfl, by unfold Hid; rw [HF.out]; exact HR2.out⟩
            case measure => simp [intOf]; omega
        · obtain rfl : k = 1001 := by omega
          have HR2 := hid (show belowK h a n d lim 1001 0 = (0, false) by rw [HT.out, Nat.sub_self]; rfl)
          clear HT
          go_wp2
          go_ret3
          exact ⟨rfl, by rw [HR.out, HR2.out]; first | rfl | skip⟩
theorem hold_steps (h a n d lim : Int) (m : Nat) (hm : m ≤ 1000) : (!(belowK h a n d lim (m + 1) 0).2) = (!(belowK h a n d lim 1001 0).2 || decide ((m : Int) < (belowK h a n d lim 1001 0).1)) := by
  have hl := belowK_less h a n d lim (m + 1) 0 1001 (by omega)
  cases hb : (belowK h a n d lim (m + 1) 0).2 with
  | true =>
    obtain ⟨h1, h2⟩ := hl.1 hb
    rw [h1]; simp; omega
  | false =>
    rw [hb] at hl
    cases hb2 : (belowK h a n d lim 1001 0).2 with
    | false => rfl
    | true =>
      have : ¬ (belowK h a n d lim 1001 0).1 < ((0 : Nat) : Int) + ((m + 1 : Nat) : Int) := fun hh => by
        have := hl.2 ⟨hb2, by omega⟩; cases this
      simp; omega
set_option maxRecDepth 100000 in
set_option maxHeartbeats 1000000 in
theorem krHoldsP_any (h a n d s lim : Int) (w : World) : Calls Try.prog 15 #[.int .i64 h, .int .i64 a, .int .i64 n, .int .i64 d, .int .i64 s, .int .i64 lim] w (BolQ w (hldV h a n d s lim)) := by
  have HE := hid (show hldV h a n d s lim = if (crsB h a n d && (zin s 0 1000 && zin lim (-2000) 2000)) = true then (!(belowK h a n d lim (s.toNat + 1) 0).2, 0) else (false, 1) from rfl)
  have C0 := hid (krHeated_any h a n d s)
  have C1 := hid (krWithin_any lim (-2000) 2000)
  cases g0 : hotB h a n d s with
  | false =>
    rw [g0] at C0
    have HR := hid ((HE.out).trans (if_neg (by rw [← Bool.and_assoc, show (crsB h a n d && zin s 0 1000) = hotB h a n d s from rfl]; simp [g0])))
    clear g0 HE
    go_enter Try.func15, Try.ntmps15
    go_wp2_with fail
    refine (C0.out _).mono ?_
    rintro e w1 ⟨rfl, rfl⟩
    go_wp2
    go_ret2
    exact ⟨rfl, by rw [HR.out]; first | rfl | skip⟩
  | true =>
    rw [g0] at C0
    cases g1 : zin lim (-2000) 2000 with
    | false =>
      rw [g1] at C1
      have HR := hid ((HE.out).trans (if_neg (by rw [← Bool.and_assoc, show (crsB h a n d && zin s 0 1000) = hotB h a n d s from rfl]; simp [g0, g1])))
      clear g0 g1 HE
      go_enter Try.func15, Try.ntmps15
      go_wp2_with fail
      refine (C0.out _).mono ?_
      rintro e w1 ⟨rfl, rfl⟩
      go_wp2_with fail
      refine (C1.out _).mono ?_
      rintro e w1 ⟨rfl, rfl⟩
      go_wp2
      go_ret2
      exact ⟨rfl, by rw [HR.out]; first | rfl | skip⟩
    | true =>
      rw [g1] at C1
      have HR := hid ((HE.out).trans (if_pos (by rw [← Bool.and_assoc, show (crsB h a n d && zin s 0 1000) = hotB h a n d s from rfl]; simp [g0, g1])))
      obtain ⟨hcr, hs⟩ := hot_ok g0
      obtain ⟨m, rfl⟩ := Int.eq_ofNat_of_zero_le hs.1
      rw [Int.toNat_natCast, hold_steps h a n d lim m (by omega)] at HR
      have HS := hid (krStepsP_any h a n d lim w)
      rw [show stpV h a n d lim = ((belowK h a n d lim 1001 0).1, (belowK h a n d lim 1001 0).2, 0) from if_pos (by simp [hcr, g1])] at HS
      have hb := belowK_bd h a n d lim 1001 0
      clear g0 g1 HE hcr
      generalize belowK h a n d lim 1001 0 = r at *
      obtain ⟨r1, r2⟩ := r
      dsimp only at hb
      obtain ⟨hb1, hb2⟩ := hb
      cases r2 with
      | false =>
        go_enter Try.func15, Try.ntmps15
        go_wp2_with fail
        refine (C0.out _).mono ?_
        rintro e w1 ⟨rfl, rfl⟩
        go_wp2_with fail
        refine (C1.out _).mono ?_
        rintro e w1 ⟨rfl, rfl⟩
        go_wp2_with fail
        refine HS.out.mono ?_
        rintro e w1 ⟨rfl, rfl⟩
        go_wp2
        go_ret2
        exact ⟨rfl, by rw [HR.out]; first | rfl | skip⟩
      | true =>
        by_cases hr : (m : Int) < r1
        · have HR2 := hid ((HR.out).trans (show _ = (true, (0 : Int)) by simp [hr]))
          have hdz : decide ((m : Int) < r1) = true := decide_eq_true hr
          clear HR
          go_enter Try.func15, Try.ntmps15
          go_wp2_with fail
          refine (C0.out _).mono ?_
          rintro e w1 ⟨rfl, rfl⟩
          go_wp2_with fail
          refine (C1.out _).mono ?_
          rintro e w1 ⟨rfl, rfl⟩
          go_wp2_with fail
          refine HS.out.mono ?_
          rintro e w1 ⟨rfl, rfl⟩
          go_wp2
          go_ret2
          exact ⟨rfl, by rw [HR2.out]; first | rfl | skip⟩
        · have HR2 := hid ((HR.out).trans (show _ = (false, (0 : Int)) by simp; omega))
          have hr' : r1 ≤ (m : Int) := by omega
          have hdz : decide ((m : Int) < r1) = false := decide_eq_false hr
          clear HR hr
          go_enter Try.func15, Try.ntmps15
          go_wp2_with fail
          refine (C0.out _).mono ?_
          rintro e w1 ⟨rfl, rfl⟩
          go_wp2_with fail
          refine (C1.out _).mono ?_
          rintro e w1 ⟨rfl, rfl⟩
          go_wp2_with fail
          refine HS.out.mono ?_
          rintro e w1 ⟨rfl, rfl⟩
          go_wp2
          go_ret2
          exact ⟨rfl, by rw [HR2.out]; first | rfl | skip⟩
end Go.Proofs.Yteolckphafblmab
