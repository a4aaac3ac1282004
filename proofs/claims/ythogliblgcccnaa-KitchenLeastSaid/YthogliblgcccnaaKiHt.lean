/- Heat: package kitchen, and the document's own. -/
import Derived.Test.YthogliblgcccnaaKiA
import Derived.Test.YthogliblgcccnaaKiHeatM
set_option linter.unusedVariables false
namespace Go.Proofs.Ythogliblgcccnaa
open Go.RowKit

set_option maxRecDepth 100000 in
set_option maxHeartbeats 1000000 in
theorem kHeat_any (t : Int) (w : World) : Calls Try.prog 68 #[.int .i64 t] w (SaysK w (zin t (-2000) 2000)) := by
  have C := hid (kWithin_any t (-2000) 2000 w)
  go_enter Try.func68, Try.ntmps68
  go_wp2_with fail
  refine C.out.mono ?_
  rintro e w1 ⟨rfl, rfl⟩
  go_wp2
  go_ret
  exact ⟨rfl, rfl⟩
def crsB (h a n d : Int) : Bool := zin h (-2000) 2000 && (zin a (-2000) 2000 && (zin d 1 100 && zin n 0 d))
set_option maxRecDepth 100000 in
set_option maxHeartbeats 1000000 in
theorem kCourse_any (h a n d : Int) (w : World) : Calls Try.prog 63 #[.int .i64 h, .int .i64 a, .int .i64 n, .int .i64 d] w (SaysK w (crsB h a n d)) := by
  have C0 := hid (kHeat_any h)
  have C1 := hid (kHeat_any a)
  have C2 := hid (kWithin_any d 1 100)
  have C3 := hid (kWithin_any n 0 d)
  cases g0 : zin h (-2000) 2000 with
  | false =>
    rw [g0] at C0
    have HR := hid (show crsB h a n d = false by simp [crsB, g0])
    clear g0
    go_enter Try.func63, Try.ntmps63
    go_wp2_with fail
    refine (C0.out _).mono ?_
    rintro e w1 ⟨rfl, rfl⟩
    go_wp2
    go_ret
    exact ⟨rfl, by rw [HR.out]; rfl⟩
  | true =>
    rw [g0] at C0
    cases g1 : zin a (-2000) 2000 with
    | false =>
      rw [g1] at C1
      have HR := hid (show crsB h a n d = false by simp [crsB, g0, g1])
      clear g0 g1
      go_enter Try.func63, Try.ntmps63
      go_wp2_with fail
      refine (C0.out _).mono ?_
      rintro e w1 ⟨rfl, rfl⟩
      go_wp2_with fail
      refine (C1.out _).mono ?_
      rintro e w1 ⟨rfl, rfl⟩
      go_wp2
      go_ret
      exact ⟨rfl, by rw [HR.out]; rfl⟩
    | true =>
      rw [g1] at C1
      cases g2 : zin d 1 100 with
      | false =>
        rw [g2] at C2
        have HR := hid (show crsB h a n d = false by simp [crsB, g0, g1, g2])
        clear g0 g1 g2
        go_enter Try.func63, Try.ntmps63
        go_wp2_with fail
        refine (C0.out _).mono ?_
        rintro e w1 ⟨rfl, rfl⟩
        go_wp2_with fail
        refine (C1.out _).mono ?_
        rintro e w1 ⟨rfl, rfl⟩
        go_wp2_with fail
        refine (C2.out _).mono ?_
        rintro e w1 ⟨rfl, rfl⟩
        go_wp2
        go_ret
        exact ⟨rfl, by rw [HR.out]; rfl⟩
      | true =>
        rw [g2] at C2
        cases g3 : zin n 0 d with
        | false =>
          rw [g3] at C3
          have HR := hid (show crsB h a n d = false by simp [crsB, g0, g1, g2, g3])
          clear g0 g1 g2 g3
          go_enter Try.func63, Try.ntmps63
          go_wp2_with fail
          refine (C0.out _).mono ?_
          rintro e w1 ⟨rfl, rfl⟩
          go_wp2_with fail
          refine (C1.out _).mono ?_
          rintro e w1 ⟨rfl, rfl⟩
          go_wp2_with fail
          refine (C2.out _).mono ?_
          rintro e w1 ⟨rfl, rfl⟩
          go_wp2_with fail
          refine (C3.out _).mono ?_
          rintro e w1 ⟨rfl, rfl⟩
          go_wp2
          go_ret
          exact ⟨rfl, by rw [HR.out]; rfl⟩
        | true =>
          rw [g3] at C3
          have HR := hid (show crsB h a n d = true by simp [crsB, g0, g1, g2, g3])
          clear g0 g1 g2 g3
          go_enter Try.func63, Try.ntmps63
          go_wp2_with fail
          refine (C0.out _).mono ?_
          rintro e w1 ⟨rfl, rfl⟩
          go_wp2_with fail
          refine (C1.out _).mono ?_
          rintro e w1 ⟨rfl, rfl⟩
          go_wp2_with fail
          refine (C2.out _).mono ?_
          rintro e w1 ⟨rfl, rfl⟩
          go_wp2_with fail
          refine (C3.out _).mono ?_
          rintro e w1 ⟨rfl, rfl⟩
          go_wp2
          go_ret
          exact ⟨rfl, by rw [HR.out]; rfl⟩
theorem crs_ok {h a n d : Int} (c : crsB h a n d = true) : (-2000 ≤ h ∧ h ≤ 2000) ∧ (-2000 ≤ a ∧ a ≤ 2000) ∧ (1 ≤ d ∧ d ≤ 100) ∧ 0 ≤ n ∧ n ≤ d := by
  simp [crsB, zin] at c; omega
set_option maxRecDepth 100000 in
set_option maxHeartbeats 1000000 in
theorem kCooler_any (t a n d : Int) (w : World) (ht : -2000 ≤ t ∧ t ≤ 2000) (ha : -2000 ≤ a ∧ a ≤ 2000) (hd : 1 ≤ d ∧ d ≤ 100) (hn : 0 ≤ n ∧ n ≤ d) : Calls Try.prog 64 #[.int .i64 t, .int .i64 a, .int .i64 n, .int .i64 d] w (NumK w (coolD t a n d)) := by
  obtain ⟨p1, p2⟩ := prod_hi (t - a) n (by omega) (by omega)
  obtain ⟨⟨q1, q2⟩, ⟨q3, q4⟩, q5, q6⟩ := quot_hi ((t - a) * n) d ⟨p1, p2⟩ hd.1
  have HE := hid (show coolD t a n d = a + (t - a) * n / d from rfl)
  obtain ⟨t1, t2⟩ := ht
  obtain ⟨a1, a2⟩ := ha
  obtain ⟨d1, d2⟩ := hd
  obtain ⟨n1, n2⟩ := hn
  by_cases hc : ((t - a) * n).tmod d < 0
  · have HN := hid (down_neg ((t - a) * n) d d1 hc)
    have hdz : d ≠ 0 := by omega
    generalize hp : (t - a) * n = p at *
    go_enter Try.func64, Try.ntmps64
    go_wp2
    go_ret
    exact ⟨rfl, by rw [HE.out, ← HN.out]; first | rfl | skip⟩
  · have HN := hid (down_pos ((t - a) * n) d d1 (by omega))
    have hc' : 0 ≤ ((t - a) * n).tmod d := by omega
    have hdz : d ≠ 0 := by omega
    clear hc
    generalize hp : (t - a) * n = p at *
    go_enter Try.func64, Try.ntmps64
    go_wp2
    go_ret
    exact ⟨rfl, by rw [HE.out, ← HN.out]; first | rfl | skip⟩
def PairQ (w : World) (v : Int × Int) (en : Ending) (w' : World) : Prop := w = w' ∧ en = .returned (.tuple #[.int .i64 v.1, .int .i64 v.2])
def coolV (h a n d s : Int) : Int × Int := if (crsB h a n d && zin s 0 1000) = true then (coolN h a n d s.toNat, 0) else (0, 1)
def warmV (h a n d s : Int) : Int × Int := if (crsB h a n d && zin s 0 1000) = true then (-coolN (-h) (-a) n d s.toNat, 0) else (0, 1)
set_option maxRecDepth 100000 in
set_option maxHeartbeats 1000000 in
theorem kCool_any (h a n d s : Int) (w : World) : Calls Try.prog 44 #[.int .i64 h, .int .i64 a, .int .i64 n, .int .i64 d, .int .i64 s] w (PairQ w (coolV h a n d s)) := by
  have HE := hid (show coolV h a n d s = if (crsB h a n d && zin s 0 1000) = true then (coolN h a n d s.toNat, 0) else (0, 1) from rfl)
  have C0 := hid (kCourse_any h a n d)
  have C1 := hid (kWithin_any s 0 1000)
  cases g0 : crsB h a n d with
  | false =>
    rw [g0] at C0
    have HR := hid ((HE.out).trans (if_neg (by simp [g0])))
    clear g0 HE
    go_enter Try.func44, Try.ntmps44
    go_wp2_with fail
    refine (C0.out _).mono ?_
    rintro e w1 ⟨rfl, rfl⟩
    go_wp2
    go_ret2
    exact ⟨rfl, by rw [HR.out]; rfl⟩
  | true =>
    rw [g0] at C0
    cases g1 : zin s 0 1000 with
    | false =>
      rw [g1] at C1
      have HR := hid ((HE.out).trans (if_neg (by simp [g0, g1])))
      clear g0 g1 HE
      go_enter Try.func44, Try.ntmps44
      go_wp2_with fail
      refine (C0.out _).mono ?_
      rintro e w1 ⟨rfl, rfl⟩
      go_wp2_with fail
      refine (C1.out _).mono ?_
      rintro e w1 ⟨rfl, rfl⟩
      go_wp2
      go_ret2
      exact ⟨rfl, by rw [HR.out]; rfl⟩
    | true =>
      rw [g1] at C1
      have HR := hid ((HE.out).trans (if_pos (by simp [g0, g1])))
      obtain ⟨ht, ha, hd, hn⟩ := crs_ok g0
      have hs : 0 ≤ s ∧ s ≤ 1000 := by simpa [zin] using g1
      obtain ⟨m, rfl⟩ := Int.eq_ofNat_of_zero_le hs.1
      have hm : m ≤ 1000 := by omega
      have HS := hid (fun k => kCooler_any (coolN h a n d k) a n d w (coolN_bd ht ha hd.1 hn k) ha hd hn)
      rw [Int.toNat_natCast] at HR
      have hs2 : (m : Int) ≤ 1000 := by omega
      clear g0 g1 HE ht ha hd hn hs
      go_enter Try.func44, Try.ntmps44
      go_wp2_with fail
      refine (C0.out _).mono ?_
      rintro e w1 ⟨rfl, rfl⟩
      go_wp2_with fail
      refine (C1.out _).mono ?_
      rintro e w1 ⟨rfl, rfl⟩
      go_wp2
      go_loop [0, 24] (fun t i => ∃ (k : Nat), k ≤ m ∧ i = .int .i64 k ∧ t = .int .i64 (coolN h a n d k)) (fun _ i => m - (intOf i).toNat)
      case atStart => exact ⟨0, Nat.zero_le _, rfl, by first | rfl | (simp only [coolN, Int.neg_neg])⟩
      case round =>
        obtain ⟨k, hk, rfl, rfl⟩ := hrel
        by_cases hlt : k < m
        · have hlt' : (k : Int) < (m : Int) := by omega
          have HK := hid (HS.out k)
          clear HS
          generalize hv : coolN h a n d k = v at *
          have HV := hid hv
          clear hv
          go_wp2_with fail
          refine HK.out.mono ?_
          rintro e w1 ⟨rfl, rfl⟩
          go_wp2
          go_round
          case rel => exact ⟨k + 1, by omega, by go_num, by rw [← HV.out]; rfl⟩
          case measure => simp [intOf]; omega
        · obtain rfl : k = m := by omega
          go_wp2
          go_ret2
          exact ⟨rfl, by rw [HR.out]; rfl⟩
set_option maxRecDepth 100000 in
set_option maxHeartbeats 1000000 in
theorem kWarmer_any (t a n d : Int) (w : World) (ht : -2000 ≤ t ∧ t ≤ 2000) (ha : -2000 ≤ a ∧ a ≤ 2000) (hd : 1 ≤ d ∧ d ≤ 100) (hn : 0 ≤ n ∧ n ≤ d) : Calls Try.prog 67 #[.int .i64 t, .int .i64 a, .int .i64 n, .int .i64 d] w (NumK w (-coolD (-t) (-a) n d)) := by
  have HC := hid (kCooler_any (-t) (-a) n d w (by omega) (by omega) hd hn)
  obtain ⟨c1, c2⟩ := coolD_bd (t := -t) (a := -a) (n := n) (d := d) (by omega) (by omega) hd.1 hn
  obtain ⟨t1, t2⟩ := ht
  obtain ⟨a1, a2⟩ := ha
  generalize coolD (-t) (-a) n d = v at *
  clear hd hn
  go_enter Try.func67, Try.ntmps67
  go_wp2_with fail
  refine HC.out.mono ?_
  rintro e w1 ⟨rfl, rfl⟩
  go_wp2
  go_ret
  exact ⟨rfl, rfl⟩
set_option maxRecDepth 100000 in
set_option maxHeartbeats 1000000 in
theorem kWarm_any (h a n d s : Int) (w : World) : Calls Try.prog 46 #[.int .i64 h, .int .i64 a, .int .i64 n, .int .i64 d, .int .i64 s] w (PairQ w (warmV h a n d s)) := by
  have HE := hid (show warmV h a n d s = if (crsB h a n d && zin s 0 1000) = true then (-coolN (-h) (-a) n d s.toNat, 0) else (0, 1) from rfl)
  have C0 := hid (kCourse_any h a n d)
  have C1 := hid (kWithin_any s 0 1000)
  cases g0 : crsB h a n d with
  | false =>
    rw [g0] at C0
    have HR := hid ((HE.out).trans (if_neg (by simp [g0])))
    clear g0 HE
    go_enter Try.func46, Try.ntmps46
    go_wp2_with fail
    refine (C0.out _).mono ?_
    rintro e w1 ⟨rfl, rfl⟩
    go_wp2
    go_ret2
    exact ⟨rfl, by rw [HR.out]; rfl⟩
  | true =>
    rw [g0] at C0
    cases g1 : zin s 0 1000 with
    | false =>
      rw [g1] at C1
      have HR := hid ((HE.out).trans (if_neg (by simp [g0, g1])))
      clear g0 g1 HE
      go_enter Try.func46, Try.ntmps46
      go_wp2_with fail
      refine (C0.out _).mono ?_
      rintro e w1 ⟨rfl, rfl⟩
      go_wp2_with fail
      refine (C1.out _).mono ?_
      rintro e w1 ⟨rfl, rfl⟩
      go_wp2
      go_ret2
      exact ⟨rfl, by rw [HR.out]; rfl⟩
    | true =>
      rw [g1] at C1
      have HR := hid ((HE.out).trans (if_pos (by simp [g0, g1])))
      obtain ⟨ht, ha, hd, hn⟩ := crs_ok g0
      have hs : 0 ≤ s ∧ s ≤ 1000 := by simpa [zin] using g1
      obtain ⟨m, rfl⟩ := Int.eq_ofNat_of_zero_le hs.1
      have hm : m ≤ 1000 := by omega
      have HS := hid (fun k => kWarmer_any (-coolN (-h) (-a) n d k) a n d w (by have := coolN_bd (t := -h) (a := -a) (n := n) (d := d) (by omega) (by omega) hd.1 hn k; omega) ha hd hn)
      rw [Int.toNat_natCast] at HR
      have hs2 : (m : Int) ≤ 1000 := by omega
      clear g0 g1 HE ht ha hd hn hs
      go_enter Try.func46, Try.ntmps46
      go_wp2_with fail
      refine (C0.out _).mono ?_
      rintro e w1 ⟨rfl, rfl⟩
      go_wp2_with fail
      refine (C1.out _).mono ?_
      rintro e w1 ⟨rfl, rfl⟩
      go_wp2
      go_loop [0, 24] (fun t i => ∃ (k : Nat), k ≤ m ∧ i = .int .i64 k ∧ t = .int .i64 (-coolN (-h) (-a) n d k)) (fun _ i => m - (intOf i).toNat)
      case atStart => exact ⟨0, Nat.zero_le _, rfl, by first | rfl | (simp only [coolN, Int.neg_neg])⟩
      case round =>
        obtain ⟨k, hk, rfl, rfl⟩ := hrel
        by_cases hlt : k < m
        · have hlt' : (k : Int) < (m : Int) := by omega
          have HK := hid (HS.out k)
          clear HS
          generalize hv : -coolN (-h) (-a) n d k = v at *
          have HV := hid hv
          clear hv
          go_wp2_with fail
          refine HK.out.mono ?_
          rintro e w1 ⟨rfl, rfl⟩
          go_wp2
          go_round
          case rel => exact ⟨k + 1, by omega, by go_num, by rw [← HV.out, Int.neg_neg]; rfl⟩
          case measure => simp [intOf]; omega
        · obtain rfl : k = m := by omega
          go_wp2
          go_ret2
          exact ⟨rfl, by rw [HR.out]; rfl⟩
end Go.Proofs.Ythogliblgcccnaa
