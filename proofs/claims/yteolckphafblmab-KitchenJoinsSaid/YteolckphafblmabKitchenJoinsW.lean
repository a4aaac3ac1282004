/- The walk of the law KitchenJoins. -/
import Derived.Test.YteolckphafblmabKiHr
import Derived.Test.YteolckphafblmabKiKn
set_option linter.unusedVariables false
namespace Go.Proofs.Yteolckphafblmab
open Go.RowKit

set_option maxRecDepth 100000 in
set_option maxHeartbeats 2000000 in
theorem kitchenJoins_walk (x y z u s t : Int) (q r : Int) (w : World) (b0 : -9223372036854775808 ≤ x ∧ x ≤ 9223372036854775807) (b1 : -9223372036854775808 ≤ y ∧ y ≤ 9223372036854775807) (b2 : -9223372036854775808 ≤ z ∧ z ≤ 9223372036854775807) (b3 : -9223372036854775808 ≤ u ∧ u ≤ 9223372036854775807) (b4 : -9223372036854775808 ≤ s ∧ s ≤ 9223372036854775807) (b5 : -9223372036854775808 ≤ t ∧ t ≤ 9223372036854775807) (b6 : -9223372036854775808 ≤ q ∧ q ≤ 9223372036854775807) (b7 : -9223372036854775808 ≤ r ∧ r ≤ 9223372036854775807) :
  Calls Try.prog 4 #[.agg #[.int .i64 x, .int .i64 y, .int .i64 z, .int .i64 u, .int .i64 s, .int .i64 t], .int .i64 q, .int .i64 r] w (BoolR w true) := by
  have P0 := hid ((Below.refl w.heap.size w).alloc (Nat.le_refl _) (.cells #[.int .i64 x, .int .i64 y, .int .i64 z, .int .i64 u, .int .i64 s, .int .i64 t] 23))
  have HA := hid (fun W => kCool_any x y z u s W)
  have HE := hid (show coolV x y z u s = if (crsB x y z u && zin s 0 1000) = true then (coolN x y z u s.toNat, 0) else (0, 1) from rfl)
  cases hc : crsB x y z u && zin s 0 1000 with
  | false =>
    rw [show coolV x y z u s = (0, 1) by rw [HE.out, hc]; rfl] at HA
    clear HE hc
    go_enter Try.func4, Try.ntmps4
    go_wp2_with fail
    refine (HA.out _).mono ?_
    rintro e w1 ⟨rfl, rfl⟩
    go_wp2_with fail
    refine (known7_any _).mono ?_
    rintro e w9 ⟨hb, rfl⟩
    have P9 := hid (P0.out.trans (hb.mono P0.out.size))
    clear hb
    go_wp2
    go_ret
    exact ⟨P9.out, rfl⟩
  | true =>
    have hc' := hc
    rw [Bool.and_eq_true] at hc'
    obtain ⟨hc1, hc2⟩ := hc'
    have hs : 0 ≤ s ∧ s ≤ 1000 := by simpa [zin] using hc2
    obtain ⟨ht, ha, hd, hn⟩ := crs_ok hc1
    rw [show coolV x y z u s = (coolN x y z u s.toNat, 0) by rw [HE.out, hc]; rfl] at HA
    clear HE hc
    obtain ⟨m, rfl⟩ := Int.eq_ofNat_of_zero_le hs.1
    rw [Int.toNat_natCast] at HA
    have hm := hs.2
    by_cases hq : q < 0
    · clear hc1 hc2 ht ha hd hn hs
      generalize coolN x y z u m = v at *
      go_enter Try.func4, Try.ntmps4
      go_wp2_with fail
      refine (HA.out _).mono ?_
      rintro e w1 ⟨rfl, rfl⟩
      go_wp2_with fail
      refine (known7_any _).mono ?_
      rintro e w9 ⟨hb, rfl⟩
      have P9 := hid (P0.out.trans (hb.mono P0.out.size))
      clear hb
      go_wp2
      go_ret
      exact ⟨P9.out, rfl⟩
    have hq' : 0 ≤ q := by omega
    clear hq
    by_cases hr : 1000 - (m : Int) < q
    · clear hc1 hc2 ht ha hd hn hs
      generalize coolN x y z u m = v at *
      go_enter Try.func4, Try.ntmps4
      go_wp2_with fail
      refine (HA.out _).mono ?_
      rintro e w1 ⟨rfl, rfl⟩
      go_wp2_with fail
      refine (known7_any _).mono ?_
      rintro e w9 ⟨hb, rfl⟩
      have P9 := hid (P0.out.trans (hb.mono P0.out.size))
      clear hb
      go_wp2
      go_ret
      exact ⟨P9.out, rfl⟩
    have hr' : q ≤ 1000 - (m : Int) := by omega
    clear hr
    obtain ⟨k, rfl⟩ := Int.eq_ofNat_of_zero_le hq'
    have HB := hid (fun W => kCool_any (coolN x y z u m) y z u (k : Int) W)
    have HC := hid (fun W => kCool_any x y z u ((m : Int) + (k : Int)) W)
    have HD := hid (fun W => kCool_any r y z u (m : Int) W)
    have hvb := coolN_bd ht ha hd.1 hn m
    have hz2 : zin (coolN x y z u m) (-2000) 2000 = true := decide_eq_true hvb
    have hcv : crsB (coolN x y z u m) y z u = true := by
      simp only [crsB, Bool.and_eq_true] at hc1 ⊢
      exact ⟨hz2, hc1.2⟩
    rw [show coolV (coolN x y z u m) y z u (k : Int) = (coolN x y z u (m + k), 0) by
      unfold coolV; rw [if_pos (by rw [hcv]; simp [zin]; omega), Int.toNat_natCast, coolN_add]] at HB
    rw [show coolV x y z u ((m : Int) + (k : Int)) = (coolN x y z u (m + k), 0) by
      unfold coolV; rw [if_pos (by rw [hc1]; simp [zin]; omega), show ((m : Int) + (k : Int)).toNat = m + k by omega]] at HC
    have HE := hid (show coolV r y z u (m : Int) = if (crsB r y z u && zin (m : Int) 0 1000) = true then (coolN r y z u m, 0) else (0, 1) from rfl)
    have HM := hid (fun (h : x ≤ r) => coolN_mono (a := y) (n := z) (d := u) h hd.1 hn.1 m)
    cases hw : crsB r y z u && zin (m : Int) 0 1000 with
    | false =>
      rw [show coolV r y z u (m : Int) = (0, 1) by rw [HE.out, hw]; rfl] at HD
      clear HE hw HM hc1 hc2 ht ha hd hn hs hz2 hcv
      generalize coolN x y z u m = v at *
      generalize coolN x y z u (m + k) = v2 at *
      go_enter Try.func4, Try.ntmps4
      go_wp2_with fail
      refine (HA.out _).mono ?_
      rintro e w1 ⟨rfl, rfl⟩
      go_wp2_with fail
      refine (HB.out _).mono ?_
      rintro e w1 ⟨rfl, rfl⟩
      go_wp2_with fail
      refine (HC.out _).mono ?_
      rintro e w1 ⟨rfl, rfl⟩
      go_wp2_with fail
      refine (HD.out _).mono ?_
      rintro e w1 ⟨rfl, rfl⟩
      go_wp2_with fail
      refine (known7_any _).mono ?_
      rintro e w9 ⟨hb, rfl⟩
      have P9 := hid (P0.out.trans (hb.mono P0.out.size))
      clear hb
      go_wp2
      go_ret
      exact ⟨P9.out, rfl⟩
    | true =>
      rw [show coolV r y z u (m : Int) = (coolN r y z u m, 0) by rw [HE.out, hw]; rfl] at HD
      by_cases hx : x ≤ r
      · have hmn := HM.out hx
        clear HE hw HM hc1 hc2 ht ha hd hn hs hz2 hcv
        generalize coolN x y z u m = v at *
        generalize coolN x y z u (m + k) = v2 at *
        generalize coolN r y z u m = v3 at *
        go_enter Try.func4, Try.ntmps4
        go_wp2_with fail
        refine (HA.out _).mono ?_
        rintro e w1 ⟨rfl, rfl⟩
        go_wp2_with fail
        refine (HB.out _).mono ?_
        rintro e w1 ⟨rfl, rfl⟩
        go_wp2_with fail
        refine (HC.out _).mono ?_
        rintro e w1 ⟨rfl, rfl⟩
        go_wp2_with fail
        refine (HD.out _).mono ?_
        rintro e w1 ⟨rfl, rfl⟩
        go_wp2_with fail
        refine (known7_any _).mono ?_
        rintro e w9 ⟨hb, rfl⟩
        have P9 := hid (P0.out.trans (hb.mono P0.out.size))
        clear hb
        go_wp2
        go_ret
        exact ⟨P9.out, rfl⟩
      · have hx' : r < x := by omega
        clear HE hw HM hc1 hc2 ht ha hd hn hs hz2 hcv hx
        generalize coolN x y z u m = v at *
        generalize coolN x y z u (m + k) = v2 at *
        generalize coolN r y z u m = v3 at *
        go_enter Try.func4, Try.ntmps4
        go_wp2_with fail
        refine (HA.out _).mono ?_
        rintro e w1 ⟨rfl, rfl⟩
        go_wp2_with fail
        refine (HB.out _).mono ?_
        rintro e w1 ⟨rfl, rfl⟩
        go_wp2_with fail
        refine (HC.out _).mono ?_
        rintro e w1 ⟨rfl, rfl⟩
        go_wp2_with fail
        refine (HD.out _).mono ?_
        rintro e w1 ⟨rfl, rfl⟩
        go_wp2_with fail
        refine (known7_any _).mono ?_
        rintro e w9 ⟨hb, rfl⟩
        have P9 := hid (P0.out.trans (hb.mono P0.out.size))
        clear hb
        go_wp2
        go_ret
        exact ⟨P9.out, rfl⟩
end Go.Proofs.Yteolckphafblmab
