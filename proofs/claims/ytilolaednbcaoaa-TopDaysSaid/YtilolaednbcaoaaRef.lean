/- The document's own answers: valid terms and cycles, days. -/
import Derived.Test.YtilolaednbcaoaaSearch
import Derived.Test.YtilolaednbcaoaaCommon
import Derived.Test.YtilolaednbcaoaaTurnM
import Derived.Test.YtilolaednbcaoaaSolve
import Derived.Deep.RegionWith
set_option linter.unusedVariables false
namespace Go.Proofs.Ytilolaednbcaoaa
open Go.RowKit

/-! The document's own answers. -/

set_option maxRecDepth 100000 in
set_option maxHeartbeats 1000000 in
theorem rvalidateCycle_any (m f k : Int) (w : World) :
  Calls Try.prog 65 #[.agg #[.int .i64 m, .int .i64 f, .int .i64 k]] w (IntR w (validC m f k)) := by
  have hB := (Below.refl w.heap.size w).alloc (Nat.le_refl _) (.cells #[.int .i64 m, .int .i64 f, .int .i64 k] 38)
  cases h1 : inB m 1 40 with
  | false =>
    have HR := hid (show validC m f k = 1 by simp [inB] at h1; simp [validC, badC]; omega)
    go_enter Try.func65, Try.ntmps65
    go_wp2_with (go_at_call 41; refine (within_any _ _ _ _).mono ?_; rintro e w' ⟨rfl, rfl⟩)
    go_ret
    exact ⟨hB, ret_int HR.out.symm⟩
  | true =>
    have hm : 1 ≤ m ∧ m ≤ 40 := by simpa [inB] using h1
    cases h2 : inB f 0 (m - 1) with
    | false =>
      have HR := hid (show validC m f k = 1 by simp [inB] at h2; simp [validC, badC]; omega)
      go_enter Try.func65, Try.ntmps65
      go_wp2_with (go_at_call 41; refine (within_any _ _ _ _).mono ?_; rintro e w' ⟨rfl, rfl⟩)
      go_ret
      exact ⟨hB, ret_int HR.out.symm⟩
    | true =>
      cases h4 : (k != 0) with
      | false =>
        have HR := hid (show validC m f k = 0 by simp at h4; simp [inB] at h2; simp [validC, badC]; omega)
        go_enter Try.func65, Try.ntmps65
        go_wp2_with (go_at_call 41; refine (within_any _ _ _ _).mono ?_; rintro e w' ⟨rfl, rfl⟩)
        go_ret
        exact ⟨hB, ret_int HR.out.symm⟩
      | true =>
        cases h5 : (k != 1) with
        | false =>
          have HR := hid (show validC m f k = 0 by simp at h5; simp [inB] at h2; simp [validC, badC]; omega)
          go_enter Try.func65, Try.ntmps65
          go_wp2_with (go_at_call 41; refine (within_any _ _ _ _).mono ?_; rintro e w' ⟨rfl, rfl⟩)
          go_ret
          exact ⟨hB, ret_int HR.out.symm⟩
        | true =>
          have HR := hid (show validC m f k = 1 by simp at h4 h5; simp [inB] at h2; simp [validC, badC]; omega)
          go_enter Try.func65, Try.ntmps65
          go_wp2_with (go_at_call 41; refine (within_any _ _ _ _).mono ?_; rintro e w' ⟨rfl, rfl⟩)
          go_ret
          exact ⟨hB, ret_int HR.out.symm⟩

end Go.Proofs.Ytilolaednbcaoaa
