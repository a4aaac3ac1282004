/- The document's own Dishes and Children. -/
import Derived.Test.YtongejajkifccaaRTabSets
set_option linter.unusedVariables false
namespace Go.Proofs.Ytongejajkifccaa
open Go.RowKit

set_option maxRecDepth 100000 in
set_option maxHeartbeats 2000000 in
theorem rdishes_any (a : Option Addr) (rows : List Int) (cap : Nat) (d s : Int) (w : World) (h : Ints w a rows) :
  Calls Try.prog 46 #[.slice a rows.length cap, .int .i64 d, .int .i64 s] w (PairR w (dishesL rows d s)) := by
  have HV := hid (rvalidTab_any a rows cap d w h)
  by_cases hz : validTab rows d = 0
  · obtain ⟨h0, h8, hr8, hrr⟩ := validTab_ok hz
    have hl := hr8
    obtain ⟨n, rfl⟩ := Int.eq_ofNat_of_zero_le h0
    have hn8 : n ≤ 8 := by omega
    have HR := hid (show dishesL rows (n : Int) s = if choiceB s (rows.length : Nat) then (((comN n rows (s.toNat) rows.length : Nat) : Int), 0) else (0, 1) by rw [dishesL, if_neg (by simp [hz])]; try rfl)
    rw [hz] at HV
    clear hz
    have hp : 2 ^ rows.length ≤ 256 := Nat.pow_le_pow_right (n := 2) (by omega) (show rows.length ≤ 8 by omega)
    have hpn : 2 ^ n ≤ 256 := Nat.pow_le_pow_right (n := 2) (by omega) hn8
    have HW := hid (pow_wrap (rows.length) (by omega))
    have hrr2 : ∀ x ∈ rows, 0 ≤ x ∧ x < 256 := fun x hx => by have := hrr x hx; rw [Int.toNat_natCast] at this; omega
    clear hrr
    by_cases hs0 : s < 0
    · have HR2 := hid (show dishesL rows (n : Int) s = (0, 1) by rw [HR.out, if_neg (by simp [choiceB]; omega)])
      go_enter Try.func46, Try.ntmps46
      go_wp2_with fail
      refine HV.out.mono ?_
      rintro e w1 ⟨q1, rfl⟩
      go_wp2
      refine bodyPost_ret (v := .tuple #[.int .i64 0, .int .i64 1]) (by simp [results, Try.results46, go_sem]) rfl ⟨q1, by rw [HR2.out]⟩
    · obtain ⟨m, rfl⟩ := Int.eq_ofNat_of_zero_le (show 0 ≤ s by omega)
      by_cases hs1 : m < 2 ^ rows.length
      · have hsw : ¬ wrap64 (2 ^ rows.length) ≤ (m : Int) := by rw [HW.out]; omega
        have HR2 := hid (show dishesL rows (n : Int) (m : Int) = (((comN n rows (m) rows.length : Nat) : Int), 0) by rw [HR.out, if_pos (by simp only [choiceB, Int.toNat_natCast]; simp only [decide_eq_true_eq]; omega), Int.toNat_natCast])
        have HC := hid (fun (w' : World) (hI : Ints w' a rows) => rcommon_any a rows cap n m w' hI hrr2 hn8 hr8 (by omega))
        have HE := hid ((com_eq n rows m rows.length).symm)
        go_enter Try.func46, Try.ntmps46
        go_wp2_with fail
        refine HV.out.mono ?_
        rintro e w1 ⟨q1, rfl⟩
        go_wp2_with fail
        refine (HC.out _ (h.below q1)).mono ?_
        rintro e w2 ⟨q2, rfl⟩
        rw [← HE.out]
        go_wp2
        refine bodyPost_ret (v := .tuple #[.int .i64 (comN n rows (m) rows.length : Nat), .int .i64 0]) (by simp [results, Try.results46, go_sem]) rfl ⟨q1.trans (q2.mono q1.size), by rw [HR2.out]⟩
      · have hsw : wrap64 (2 ^ rows.length) ≤ (m : Int) := by rw [HW.out]; omega
        have HR2 := hid (show dishesL rows (n : Int) (m : Int) = (0, 1) by rw [HR.out, if_neg (by simp only [choiceB, Int.toNat_natCast]; simp only [decide_eq_true_eq]; omega)])
        go_enter Try.func46, Try.ntmps46
        go_wp2_with fail
        refine HV.out.mono ?_
        rintro e w1 ⟨q1, rfl⟩
        go_wp2
        refine bodyPost_ret (v := .tuple #[.int .i64 0, .int .i64 1]) (by simp [results, Try.results46, go_sem]) rfl ⟨q1, by rw [HR2.out]⟩
  · have hz' : (validTab rows d != 0) = true := by simp [hz]
    have HR := hid (show dishesL rows d s = (0, validTab rows d) by rw [dishesL, if_pos hz])
    clear hz
    generalize validTab rows d = x at *
    go_enter Try.func46, Try.ntmps46
    go_wp2_with fail
    refine HV.out.mono ?_
    rintro e w1 ⟨q1, rfl⟩
    go_wp2
    refine bodyPost_ret (v := .tuple #[.int .i64 0, .int .i64 x]) (by simp [results, Try.results46, go_sem]) rfl ⟨q1, by rw [HR.out]⟩

set_option maxRecDepth 100000 in
set_option maxHeartbeats 2000000 in
theorem rchildren_any (a : Option Addr) (rows : List Int) (cap : Nat) (d s : Int) (w : World) (h : Ints w a rows) :
  Calls Try.prog 48 #[.slice a rows.length cap, .int .i64 d, .int .i64 s] w (PairR w (childrenL rows d s)) := by
  have HV := hid (rvalidTab_any a rows cap d w h)
  by_cases hz : validTab rows d = 0
  · obtain ⟨h0, h8, hr8, hrr⟩ := validTab_ok hz
    have hl := hr8
    obtain ⟨n, rfl⟩ := Int.eq_ofNat_of_zero_le h0
    have hn8 : n ≤ 8 := by omega
    have HR := hid (show childrenL rows (n : Int) s = if choiceB s (n : Nat) then (((eatN rows (s.toNat) rows.length : Nat) : Int), 0) else (0, 1) by rw [childrenL, if_neg (by simp [hz])]; try rfl)
    rw [hz] at HV
    clear hz
    have hp : 2 ^ n ≤ 256 := Nat.pow_le_pow_right (n := 2) (by omega) (show n ≤ 8 by omega)
    have hpn : 2 ^ n ≤ 256 := Nat.pow_le_pow_right (n := 2) (by omega) hn8
    have HW := hid (pow_wrap (n) (by omega))
    have hrr2 : ∀ x ∈ rows, 0 ≤ x ∧ x < 256 := fun x hx => by have := hrr x hx; rw [Int.toNat_natCast] at this; omega
    clear hrr
    by_cases hs0 : s < 0
    · have HR2 := hid (show childrenL rows (n : Int) s = (0, 1) by rw [HR.out, if_neg (by simp [choiceB]; omega)])
      go_enter Try.func48, Try.ntmps48
      go_wp2_with fail
      refine HV.out.mono ?_
      rintro e w1 ⟨q1, rfl⟩
      go_wp2
      refine bodyPost_ret (v := .tuple #[.int .i64 0, .int .i64 1]) (by simp [results, Try.results48, go_sem]) rfl ⟨q1, by rw [HR2.out]⟩
    · obtain ⟨m, rfl⟩ := Int.eq_ofNat_of_zero_le (show 0 ≤ s by omega)
      by_cases hs1 : m < 2 ^ n
      · have hsw : ¬ wrap64 (2 ^ n) ≤ (m : Int) := by rw [HW.out]; omega
        have HR2 := hid (show childrenL rows (n : Int) (m : Int) = (((eatN rows (m) rows.length : Nat) : Int), 0) by rw [HR.out, if_pos (by simp only [choiceB, Int.toNat_natCast]; simp only [decide_eq_true_eq]; omega), Int.toNat_natCast])
        have HC := hid (fun (w' : World) (hI : Ints w' a rows) => reaters_any a rows cap n m w' hI hrr2 hn8 hr8 (by omega))
        have HE := hid (eat_eq n rows m rows.length hs1)
        go_enter Try.func48, Try.ntmps48
        go_wp2_with fail
        refine HV.out.mono ?_
        rintro e w1 ⟨q1, rfl⟩
        go_wp2_with fail
        refine (HC.out _ (h.below q1)).mono ?_
        rintro e w2 ⟨q2, rfl⟩
        rw [← HE.out]
        go_wp2
        refine bodyPost_ret (v := .tuple #[.int .i64 (eatN rows (m) rows.length : Nat), .int .i64 0]) (by simp [results, Try.results48, go_sem]) rfl ⟨q1.trans (q2.mono q1.size), by rw [HR2.out]⟩
      · have hsw : wrap64 (2 ^ n) ≤ (m : Int) := by rw [HW.out]; omega
        have HR2 := hid (show childrenL rows (n : Int) (m : Int) = (0, 1) by rw [HR.out, if_neg (by simp only [choiceB, Int.toNat_natCast]; simp only [decide_eq_true_eq]; omega)])
        go_enter Try.func48, Try.ntmps48
        go_wp2_with fail
        refine HV.out.mono ?_
        rintro e w1 ⟨q1, rfl⟩
        go_wp2
        refine bodyPost_ret (v := .tuple #[.int .i64 0, .int .i64 1]) (by simp [results, Try.results48, go_sem]) rfl ⟨q1, by rw [HR2.out]⟩
  · have hz' : (validTab rows d != 0) = true := by simp [hz]
    have HR := hid (show childrenL rows d s = (0, validTab rows d) by rw [childrenL, if_pos hz])
    clear hz
    generalize validTab rows d = x at *
    go_enter Try.func48, Try.ntmps48
    go_wp2_with fail
    refine HV.out.mono ?_
    rintro e w1 ⟨q1, rfl⟩
    go_wp2
    refine bodyPost_ret (v := .tuple #[.int .i64 0, .int .i64 x]) (by simp [results, Try.results48, go_sem]) rfl ⟨q1, by rw [HR.out]⟩

end Go.Proofs.Ytongejajkifccaa
