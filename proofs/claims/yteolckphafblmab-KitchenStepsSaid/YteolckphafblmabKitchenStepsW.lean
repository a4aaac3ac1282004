/- The walk of the law KitchenSteps. -/
import Derived.Test.YteolckphafblmabKiHr
import Derived.Test.YteolckphafblmabKiKn
set_option linter.unusedVariables false
namespace Go.Proofs.Yteolckphafblmab
open Go.RowKit

set_option maxRecDepth 100000 in
set_option maxHeartbeats 2000000 in
theorem kitchenSteps_walk (x y z u s t : Int) (w : World) (b0 : -9223372036854775808 ≤ x ∧ x ≤ 9223372036854775807) (b1 : -9223372036854775808 ≤ y ∧ y ≤ 9223372036854775807) (b2 : -9223372036854775808 ≤ z ∧ z ≤ 9223372036854775807) (b3 : -9223372036854775808 ≤ u ∧ u ≤ 9223372036854775807) (b4 : -9223372036854775808 ≤ s ∧ s ≤ 9223372036854775807) (b5 : -9223372036854775808 ≤ t ∧ t ≤ 9223372036854775807) :
  Calls Try.prog 5 #[.agg #[.int .i64 x, .int .i64 y, .int .i64 z, .int .i64 u, .int .i64 s, .int .i64 t]] w (BoolR w true) := by
  have P0 := hid ((Below.refl w.heap.size w).alloc (Nat.le_refl _) (.cells #[.int .i64 x, .int .i64 y, .int .i64 z, .int .i64 u, .int .i64 s, .int .i64 t] 23))
  have HA := hid (fun W => kStepsP_any x y z u t W)
  have HB := hid (fun W => krStepsP_any x y z u t W)
  generalize stpV x y z u t = p at *
  obtain ⟨p1, p2, p3⟩ := p
  cases p2
  all_goals
    go_enter Try.func5, Try.ntmps5
    go_wp2_with fail
    refine (HA.out _).mono ?_
    rintro e w1 ⟨rfl, rfl⟩
    go_wp2_with fail
    refine (HB.out _).mono ?_
    rintro e w1 ⟨rfl, rfl⟩
    go_wp2_with fail
    refine (known7_any _).mono ?_
    rintro e w9 ⟨hb, rfl⟩
    have P9 := hid (P0.out.trans (hb.mono P0.out.size))
    clear hb
    go_wp2
    go_ret
    exact ⟨P9.out, rfl⟩
end Go.Proofs.Yteolckphafblmab
