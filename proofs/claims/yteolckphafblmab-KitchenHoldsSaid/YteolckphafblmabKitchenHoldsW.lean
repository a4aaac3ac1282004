/- The walk of the law KitchenHolds. -/
import Derived.Test.YteolckphafblmabKiHr
import Derived.Test.YteolckphafblmabKiKn
set_option linter.unusedVariables false
namespace Go.Proofs.Yteolckphafblmab
open Go.RowKit

set_option maxRecDepth 100000 in
set_option maxHeartbeats 2000000 in
theorem kitchenHolds_walk (x y z u s t : Int) (w : World) (b0 : -9223372036854775808 ≤ x ∧ x ≤ 9223372036854775807) (b1 : -9223372036854775808 ≤ y ∧ y ≤ 9223372036854775807) (b2 : -9223372036854775808 ≤ z ∧ z ≤ 9223372036854775807) (b3 : -9223372036854775808 ≤ u ∧ u ≤ 9223372036854775807) (b4 : -9223372036854775808 ≤ s ∧ s ≤ 9223372036854775807) (b5 : -9223372036854775808 ≤ t ∧ t ≤ 9223372036854775807) :
  Calls Try.prog 6 #[.agg #[.int .i64 x, .int .i64 y, .int .i64 z, .int .i64 u, .int .i64 s, .int .i64 t]] w (BoolR w true) := by
  have P0 := hid ((Below.refl w.heap.size w).alloc (Nat.le_refl _) (.cells #[.int .i64 x, .int .i64 y, .int .i64 z, .int .i64 u, .int .i64 s, .int .i64 t] 23))
  have HA := hid (fun W => kHoldsP_any x y z u s t W)
  have HB := hid (fun W => krHoldsP_any x y z u s t W)
  have HC := hid (fun W => kStepsP_any x y z u t W)
  have HE := hid (show hldV x y z u s t = if (crsB x y z u && (zin s 0 1000 && zin t (-2000) 2000)) = true then (!(belowK x y z u t (s.toNat + 1) 0).2, 0) else (false, 1) from rfl)
  cases hc : crsB x y z u && (zin s 0 1000 && zin t (-2000) 2000) with
  | false =>
    have HE2 : hldV x y z u s t = (false, 1) := by rw [HE.out, hc]; rfl
    rw [HE2] at HA HB
    clear HE HE2 hc
    go_enter Try.func6, Try.ntmps6
    go_wp2_with fail
    refine (HA.out _).mono ?_
    rintro e w1 ⟨rfl, rfl⟩
    go_wp2_with fail
    refine (HB.out _).mono ?_
    rintro e w1 ⟨rfl, rfl⟩
    go_wp2_with fail
    refine (known7_any _).mono ?_
    rintro e w9 ⟨hb, rfl⟩
    have P9 := hid (P0.out.trans (hb.mono P0.out.size))
    clear hb
    go_wp2
    go_ret
    exact ⟨P9.out, rfl⟩
  | true =>
    have hc' := hc
    simp only [Bool.and_eq_true] at hc'
    obtain ⟨hc1, hc2, hc3⟩ := hc'
    have hs : 0 ≤ s ∧ s ≤ 1000 := by simpa [zin] using hc2
    have HE2 : hldV x y z u s t = (!(belowK x y z u t (s.toNat + 1) 0).2, 0) := by rw [HE.out, hc]; rfl
    have HF : stpV x y z u t = ((belowK x y z u t 1001 0).1, (belowK x y z u t 1001 0).2, 0) := if_pos (by simp [hc1, hc3])
    obtain ⟨m, rfl⟩ := Int.eq_ofNat_of_zero_le hs.1
    rw [Int.toNat_natCast, hold_steps x y z u t m (by omega)] at HE2
    have hb := belowK_bd x y z u t 1001 0
    rw [HF] at HC
    rw [HE2] at HA HB
    clear HE HE2 HF hc hc1 hc2 hc3
    generalize belowK x y z u t 1001 0 = r at *
    obtain ⟨r1, r2⟩ := r
    dsimp only at hb HA HB HC
    obtain ⟨hb1, hb2⟩ := hb
    cases r2 with
    | false =>
      go_enter Try.func6, Try.ntmps6
      go_wp2_with fail
      refine (HA.out _).mono ?_
      rintro e w1 ⟨rfl, rfl⟩
      go_wp2_with fail
      refine (HB.out _).mono ?_
      rintro e w1 ⟨rfl, rfl⟩
      go_wp2_with fail
      refine (HC.out _).mono ?_
      rintro e w1 ⟨rfl, rfl⟩
      go_wp2_with fail
      refine (known7_any _).mono ?_
      rintro e w9 ⟨hb, rfl⟩
      have P9 := hid (P0.out.trans (hb.mono P0.out.size))
      clear hb
      go_wp2
      go_ret
      exact ⟨P9.out, rfl⟩
    | true =>
      by_cases hr : (m : Int) < r1
      · have hdz : decide ((m : Int) < r1) = true := decide_eq_true hr
        rw [hdz] at HA HB
        go_enter Try.func6, Try.ntmps6
        go_wp2_with fail
        refine (HA.out _).mono ?_
        rintro e w1 ⟨rfl, rfl⟩
        go_wp2_with fail
        refine (HB.out _).mono ?_
        rintro e w1 ⟨rfl, rfl⟩
        go_wp2_with fail
        refine (HC.out _).mono ?_
        rintro e w1 ⟨rfl, rfl⟩
        go_wp2_with fail
        refine (known7_any _).mono ?_
        rintro e w9 ⟨hb, rfl⟩
        have P9 := hid (P0.out.trans (hb.mono P0.out.size))
        clear hb
        go_wp2
        go_ret
        exact ⟨P9.out, rfl⟩
      · have hdz : decide ((m : Int) < r1) = false := decide_eq_false hr
        have hr' : r1 ≤ (m : Int) := by omega
        clear hr
        rw [hdz] at HA HB
        go_enter Try.func6, Try.ntmps6
        go_wp2_with fail
        refine (HA.out _).mono ?_
        rintro e w1 ⟨rfl, rfl⟩
        go_wp2_with fail
        refine (HB.out _).mono ?_
        rintro e w1 ⟨rfl, rfl⟩
        go_wp2_with fail
        refine (HC.out _).mono ?_
        rintro e w1 ⟨rfl, rfl⟩
        go_wp2_with fail
        refine (known7_any _).mono ?_
        rintro e w9 ⟨hb, rfl⟩
        have P9 := hid (P0.out.trans (hb.mono P0.out.size))
        clear hb
        go_wp2
        go_ret
        exact ⟨P9.out, rfl⟩
end Go.Proofs.Yteolckphafblmab
