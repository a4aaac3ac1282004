/- The document's own answers: valid terms and cycles, days. -/
import Derived.Test.YtejbokelbapfmaaSearch
import Derived.Test.YtejbokelbapfmaaCommon
import Derived.Test.YtejbokelbapfmaaTurnM
import Derived.Test.YtejbokelbapfmaaSolve
import Derived.Deep.RegionWith
set_option linter.unusedVariables false
namespace Go.Proofs.Ytejbokelbapfmaa
open Go.RowKit

/-! The document's own answers. -/

set_option maxHeartbeats 400000 in
theorem rmodulo_any (n m : Int) (w : World) (h1 : 1 ≤ m) (h2 : m ≤ 1000000000000000000) (hx : -9223372036854775808 ≤ n) (hx2 : n ≤ 9223372036854775807) :
  Calls Try.prog 72 #[.int .i64 n, .int .i64 m] w fun en w' => w = w' ∧ en = .returned (.int .i64 (n % m)) := by
  have h0 : (m == 0) = false := by simp; omega
  have hb := tmod_bd n m h1
  by_cases hn : Int.tmod n m < 0
  · have HE := hid (show Int.tmod n m + m = n % m by
      have h3 := Int.mul_tdiv_add_tmod n m
      have h4 := tmod_add_emod n m h1
      rw [Int.emod_eq_of_lt (by omega) (by omega)] at h4
      exact h4)
    go_enter Try.func72, Try.ntmps72
    go_wp2
    go_ret
    exact ⟨rfl, ret_int HE.out⟩
  · have HE := hid (show Int.tmod n m = n % m by
      have h4 := tmod_add_emod n m h1
      rw [Int.add_emod_right, Int.emod_eq_of_lt (by omega) (by omega)] at h4
      exact h4)
    go_enter Try.func72, Try.ntmps72
    go_wp2
    go_ret
    exact ⟨rfl, ret_int HE.out⟩

set_option maxRecDepth 100000 in
set_option maxHeartbeats 1000000 in
theorem rvalidateCycle_any (m f k : Int) (w : World) :
  Calls Try.prog 23 #[.agg #[.int .i64 m, .int .i64 f, .int .i64 k]] w (IntR w (validC m f k)) := by
  have hB := (Below.refl w.heap.size w).alloc (Nat.le_refl _) (.cells #[.int .i64 m, .int .i64 f, .int .i64 k] 26)
  cases h1 : inB m 1 40 with
  | false =>
    have HR := hid (show validC m f k = 1 by simp [inB] at h1; simp [validC, badC]; omega)
    go_enter Try.func23, Try.ntmps23
    go_wp2_with (go_at_call 53; refine (within_any _ _ _ _).mono ?_; rintro e w' ⟨rfl, rfl⟩)
    go_ret
    exact ⟨hB, ret_int HR.out.symm⟩
  | true =>
    have hm : 1 ≤ m ∧ m ≤ 40 := by simpa [inB] using h1
    cases h2 : inB f 0 (m - 1) with
    | false =>
      have HR := hid (show validC m f k = 1 by simp [inB] at h2; simp [validC, badC]; omega)
      go_enter Try.func23, Try.ntmps23
      go_wp2_with (go_at_call 53; refine (within_any _ _ _ _).mono ?_; rintro e w' ⟨rfl, rfl⟩)
      go_ret
      exact ⟨hB, ret_int HR.out.symm⟩
    | true =>
      cases h4 : (k != 0) with
      | false =>
        have HR := hid (show validC m f k = 0 by simp at h4; simp [inB] at h2; simp [validC, badC]; omega)
        go_enter Try.func23, Try.ntmps23
        go_wp2_with (go_at_call 53; refine (within_any _ _ _ _).mono ?_; rintro e w' ⟨rfl, rfl⟩)
        go_ret
        exact ⟨hB, ret_int HR.out.symm⟩
      | true =>
        cases h5 : (k != 1) with
        | false =>
          have HR := hid (show validC m f k = 0 by simp at h5; simp [inB] at h2; simp [validC, badC]; omega)
          go_enter Try.func23, Try.ntmps23
          go_wp2_with (go_at_call 53; refine (within_any _ _ _ _).mono ?_; rintro e w' ⟨rfl, rfl⟩)
          go_ret
          exact ⟨hB, ret_int HR.out.symm⟩
        | true =>
          have HR := hid (show validC m f k = 1 by simp at h4 h5; simp [inB] at h2; simp [validC, badC]; omega)
          go_enter Try.func23, Try.ntmps23
          go_wp2_with (go_at_call 53; refine (within_any _ _ _ _).mono ?_; rintro e w' ⟨rfl, rfl⟩)
          go_ret
          exact ⟨hB, ret_int HR.out.symm⟩

end Go.Proofs.Ytejbokelbapfmaa
