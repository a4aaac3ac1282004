/- Which dishes are worse: package guess. -/
import Derived.Test.YtfjncmhbpfcdiabGuT
import Derived.Test.YtfjncmhbpfcdiabGuFr
import Derived.Deep.RegionHeld3
set_option linter.unusedVariables false
namespace Go.Proofs.Ytfjncmhbpfcdiab
open Go.RowKit

/-- What can be a level. -/
def levelB (p q : Int) : Bool := cinB q 1 1000 && (cinB p 0 q && decide (Nat.gcd p.toNat q.toNat = 1))
def compB (a l : Int) : Bool := cinB a 0 40 && cinB l 0 (40 - a)
def worseV (a l p q : Int) : Bool × Int := if compB a l = true ∧ levelB p q = true then (decide ((tailN (a + l).toNat l.toNat : Int) * q ≤ p * 2 ^ (a + l).toNat), 0) else (false, 1)
def BelW (w : World) (p : Bool × Int) (en : Ending) (w' : World) : Prop := Below w.heap.size w w' ∧ en = .returned (.tuple #[.bool p.1, .int .i64 p.2])
set_option maxHeartbeats 1000000 in
theorem gComp_any (a l : Int) (w : World) (ba : -9223372036854775808 ≤ a ∧ a ≤ 9223372036854775807) (bl : -9223372036854775808 ≤ l ∧ l ≤ 9223372036854775807) : Calls Try.prog 18 #[.int .i64 a, .int .i64 l] w (SaysG w (compB a l)) := by
  have HE := hid (show compB a l = (cinB a 0 40 && cinB l 0 (40 - a)) from rfl)
  have HA := hid (fun W => gWithin_any a 0 40 W)
  have HL := hid (fun W => gWithin_any l 0 (40 - a) W)
  cases ha : cinB a 0 40 with
  | false =>
    rw [ha] at HA HE
    clear ha
    go_enter Try.func18, Try.ntmps18
    go_wp2_with fail
    refine (HA.out _).mono ?_
    rintro e w1 ⟨rfl, rfl⟩
    go_wp2
    go_ret
    exact ⟨rfl, by rw [HE.out]; rfl⟩
  | true =>
    have ha9 : 0 ≤ a ∧ a ≤ 40 := by simpa [cinB] using ha
    rw [ha] at HA HE
    clear ha
    cases hl : cinB l 0 (40 - a) with
    | false =>
      rw [hl] at HL HE
      clear hl
      go_enter Try.func18, Try.ntmps18
      go_wp2_with fail
      refine (HA.out _).mono ?_
      rintro e w1 ⟨rfl, rfl⟩
      go_wp2_with fail
      refine (HL.out _).mono ?_
      rintro e w1 ⟨rfl, rfl⟩
      go_wp2
      go_ret
      exact ⟨rfl, by rw [HE.out]; rfl⟩
    | true =>
      rw [hl] at HL HE
      clear hl
      go_enter Try.func18, Try.ntmps18
      go_wp2_with fail
      refine (HA.out _).mono ?_
      rintro e w1 ⟨rfl, rfl⟩
      go_wp2_with fail
      refine (HL.out _).mono ?_
      rintro e w1 ⟨rfl, rfl⟩
      go_wp2
      go_ret
      exact ⟨rfl, by rw [HE.out]; rfl⟩

set_option maxHeartbeats 1000000 in
theorem gLevel_any (p q : Int) (w : World) : Calls Try.prog 19 #[.agg #[.int .i64 p, .int .i64 q]] w (fun en w' => w' = w.alloc (.cells #[.int .i64 p, .int .i64 q] 28) ∧ en = .returned (.bool (levelB p q))) := by
  have HE := hid (show levelB p q = (cinB q 1 1000 && (cinB p 0 q && decide (Nat.gcd p.toNat q.toNat = 1))) from rfl)
  have HA := hid (fun W => gWithin_any q 1 1000 W)
  have HL := hid (fun W => gWithin_any p 0 q W)
  cases ha : cinB q 1 1000 with
  | false =>
    rw [ha] at HA HE
    clear ha
    go_enter Try.func19, Try.ntmps19
    go_wp2_with fail
    refine (HA.out _).mono ?_
    rintro e w1 ⟨rfl, rfl⟩
    go_wp2
    go_ret
    exact ⟨rfl, by rw [HE.out]; rfl⟩
  | true =>
    have ha9 : 1 ≤ q ∧ q ≤ 1000 := by simpa [cinB] using ha
    rw [ha] at HA HE
    clear ha
    cases hl : cinB p 0 q with
    | false =>
      rw [hl] at HL HE
      clear hl
      go_enter Try.func19, Try.ntmps19
      go_wp2_with fail
      refine (HA.out _).mono ?_
      rintro e w1 ⟨rfl, rfl⟩
      go_wp2_with fail
      refine (HL.out _).mono ?_
      rintro e w1 ⟨rfl, rfl⟩
      go_wp2
      go_ret
      exact ⟨rfl, by rw [HE.out]; rfl⟩
    | true =>
      have hl9 : 0 ≤ p ∧ p ≤ q := by simpa [cinB] using hl
      rw [hl] at HL HE
      obtain ⟨x, rfl⟩ := Int.eq_ofNat_of_zero_le hl9.1
      obtain ⟨y, rfl⟩ := Int.eq_ofNat_of_zero_le (show 0 ≤ q by omega)
      rw [Int.toNat_natCast, Int.toNat_natCast] at HE
      have HG := hid (fun W => gCdiv_rec y x W (by omega) (by omega))
      clear hl
      by_cases hg : Nat.gcd x y = 1
      · rw [decide_eq_true hg] at HE
        rw [hg] at HG
        clear hg
        go_enter Try.func19, Try.ntmps19
        go_wp2_with fail
        refine (HA.out _).mono ?_
        rintro e w1 ⟨rfl, rfl⟩
        go_wp2_with fail
        refine (HL.out _).mono ?_
        rintro e w1 ⟨rfl, rfl⟩
        go_wp2_with fail
        refine (HG.out _).mono ?_
        rintro e w1 ⟨rfl, rfl⟩
        go_wp2
        go_ret
        exact ⟨rfl, by rw [HE.out]; rfl⟩
      · rw [decide_eq_false hg] at HE
        generalize Nat.gcd x y = gd at *
        have hg1 : ((gd : Int) == 1) = false := by rw [beq_eq_false_iff_ne]; omega
        have hg2 : ¬ ((gd : Int) = 1) := by omega
        go_enter Try.func19, Try.ntmps19
        go_wp2_with fail
        refine (HA.out _).mono ?_
        rintro e w1 ⟨rfl, rfl⟩
        go_wp2_with fail
        refine (HL.out _).mono ?_
        rintro e w1 ⟨rfl, rfl⟩
        go_wp2_with fail
        refine (HG.out _).mono ?_
        rintro e w1 ⟨rfl, rfl⟩
        go_wp2
        go_ret
        exact ⟨rfl, by rw [HE.out]; first | rfl | (simp; omega)⟩
theorem worse_nums {n l : Nat} (hn : n ≤ 40) {p q : Int} (hp : 0 ≤ p ∧ p ≤ 1000) (hq : 1 ≤ q ∧ q ≤ 1000) : (0 ≤ (tailN n l : Int) * q ∧ (tailN n l : Int) * q ≤ 1099511627776000) ∧ (0 ≤ p * (2 : Int) ^ n ∧ p * (2 : Int) ^ n ≤ 1099511627776000) := by
  have h1 := tailTo_bd n l (n + 1) hn
  have h2 : (tailN n l : Int) ≤ 1099511627776 := by unfold tailN; omega
  have h3 : (2 : Int) ^ n ≤ 1099511627776 := by
    have := Nat.pow_le_pow_right (show 0 < 2 by omega) hn
    rw [← pow_cast']; omega
  have h4 : 0 ≤ (2 : Int) ^ n := by rw [← pow_cast']; exact Int.natCast_nonneg _
  exact ⟨⟨Int.mul_nonneg (Int.natCast_nonneg _) (by omega), Int.le_trans (Int.mul_le_mul h2 hq.2 (by omega) (by omega)) (by omega)⟩, ⟨Int.mul_nonneg hp.1 h4, Int.le_trans (Int.mul_le_mul hp.2 h3 h4 (by omega)) (by omega)⟩⟩
theorem level_ok {p q : Int} (h : levelB p q = true) : (0 ≤ p ∧ p ≤ q) ∧ (1 ≤ q ∧ q ≤ 1000) ∧ Nat.gcd p.toNat q.toNat = 1 := by
  simp [levelB, cinB] at h; omega
theorem comp_ok {a l : Int} (h : compB a l = true) : (0 ≤ a ∧ a ≤ 40) ∧ 0 ≤ l ∧ l ≤ 40 - a := by
  simp [compB, cinB] at h; omega
set_option maxRecDepth 100000 in
set_option maxHeartbeats 2000000 in
theorem gWorse_any (a l p q : Int) (w : World) (ba : -9223372036854775808 ≤ a ∧ a ≤ 9223372036854775807) (bl : -9223372036854775808 ≤ l ∧ l ≤ 9223372036854775807) : Calls Try.prog 9 #[.int .i64 a, .int .i64 l, .agg #[.int .i64 p, .int .i64 q]] w (BelW w (worseV a l p q)) := by
  have HE := hid (show worseV a l p q = if compB a l = true ∧ levelB p q = true then (decide ((tailN (a + l).toNat l.toNat : Int) * q ≤ p * 2 ^ (a + l).toNat), 0) else (false, 1) from rfl)
  have HC := hid (fun W => gComp_any a l W ba bl)
  have HL := hid (fun W => gLevel_any p q W)
  have HB0 := hid ((Below.refl w.heap.size w).alloc (Nat.le_refl _) (.cells #[.int .i64 p, .int .i64 q] 28))
  cases hc : compB a l with
  | false =>
    rw [hc] at HC
    have HE2 := hid ((HE.out).trans (if_neg (fun h => by rw [hc] at h; exact absurd h.1 (by simp))))
    clear hc HE
    go_enter Try.func9, Try.ntmps9
    go_wp2_with fail
    refine (HC.out _).mono ?_
    rintro e w1 ⟨rfl, rfl⟩
    go_wp2
    go_ret2
    exact ⟨HB0.out, by rw [HE2.out]; rfl⟩
  | true =>
    rw [hc] at HC
    cases hl : levelB p q with
    | false =>
      rw [hl] at HL
      have HE2 := hid ((HE.out).trans (if_neg (fun h => by rw [hl] at h; exact absurd h.2 (by simp))))
      clear hc hl HE
      go_enter Try.func9, Try.ntmps9
      go_wp2_with fail
      refine (HC.out _).mono ?_
      rintro e w1 ⟨rfl, rfl⟩
      go_wp2_with fail
      refine (HL.out _).mono ?_
      rintro e w1 ⟨rfl, rfl⟩
      go_wp2
      go_ret2
      exact ⟨HB0.out.alloc (by simp) _, by rw [HE2.out]; rfl⟩
    | true =>
      rw [hl] at HL
      have HE2 := hid ((HE.out).trans (if_pos ⟨hc, hl⟩))
      obtain ⟨ha9, hl9⟩ := comp_ok hc
      obtain ⟨hp9, hq9, _⟩ := level_ok hl
      obtain ⟨x, rfl⟩ := Int.eq_ofNat_of_zero_le ha9.1
      obtain ⟨y, rfl⟩ := Int.eq_ofNat_of_zero_le hl9.1
      rw [show ((x : Int) + (y : Int)).toNat = x + y by omega, Int.toNat_natCast] at HE2
      have hxy : x + y ≤ 40 := by omega
      have HT := hid (fun W => gTail_any (x + y) y hxy (by omega) W)
      rw [Int.natCast_add] at HT
      obtain ⟨b1, b2⟩ := worse_nums (l := y) hxy (p := p) (q := q) (by omega) (by omega)
      have b3 := tailTo_bd (x + y) y (x + y + 1) hxy
      rw [show tailTo (x + y) y (x + y + 1) = tailN (x + y) y from rfl] at b3
      generalize tailN (x + y) y = tt at *
      have hw1 : IntKind.i64.wrap ((tt : Int) * q) = (tt : Int) * q := IntWalk.i64_in _ (by omega)
      have hw2 : IntKind.i64.wrap (p * (2 : Int) ^ (x + y)) = p * (2 : Int) ^ (x + y) := IntWalk.i64_in _ (by omega)
      have hw3 : IntKind.i64.wrap ((x : Int) + (y : Int)) = (x : Int) + (y : Int) := IntWalk.i64_in _ (by omega)
      have ht3 : ((x : Int) + (y : Int)).toNat = x + y := by omega
      have ht4 : 0 ≤ (x : Int) + (y : Int) := by omega
      clear hc hl HE
      go_enter Try.func9, Try.ntmps9
      go_wp2_with fail
      refine (HC.out _).mono ?_
      rintro e w1 ⟨rfl, rfl⟩
      go_wp2_with fail
      refine (HL.out _).mono ?_
      rintro e w1 ⟨rfl, rfl⟩
      go_wp2
      go_quiet ((go_at_call 14; exact Calls.quiet_of_same ((HT.out _).mono fun _ _ h => ⟨h.2, h.1.symm⟩)))
      go_wp2
      go_ret2
      exact ⟨below_drewN (HB0.out.alloc (by simp) _) nq, by rw [HE2.out]; rfl⟩
end Go.Proofs.Ytfjncmhbpfcdiab
