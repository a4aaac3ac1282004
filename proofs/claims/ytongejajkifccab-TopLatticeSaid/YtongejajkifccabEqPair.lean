/- Two pairs of numbers ([2]int), compared. -/
import Derived.Test.YtongejajkifccabRowsI
import Derived.ChangeKeysEq
set_option linter.unusedVariables false
namespace Go.Proofs.Ytongejajkifccab
open Go.RowKit

set_option maxRecDepth 100000 in
theorem eq_pair (w : World) (x y x' y' : Int) : (Op.equalIn 10000 58 (.agg #[.int .i64 x, .int .i64 y]) (.agg #[.int .i64 x', .int .i64 y'])).run Try.prog w = .ok ((x == x') && (y == y')) w := by
  obtain ⟨i, hi, _, _, _⟩ := info_parts int_info
  have hc : Try.prog.cellsOf 3 = 1 := by kernel_rfl
  have e1 : ∀ (a b : Int), (Op.equalIn 9999 3 (.int .i64 a) (.int .i64 b)).run Try.prog w = .ok (a == b) w := fun a b => run_equalIn_int w 9998 3 .i64 .i64 a b Try.underlying3
  rw [show (10000 : Nat) = 9999 + 1 from rfl, run_equalIn_array w 9999 (e := 3) (n := 2) #[.int .i64 x, .int .i64 y] #[.int .i64 x', .int .i64 y'] (by kernel_rfl) hi, hc]
  rw [show List.range 2 = [0, 1] from rfl]
  cases hx : x == x' <;> cases hy : y == y' <;> simp [Op.eqItems, part, e1, hx, hy, Result.andThen, go_sem]

end Go.Proofs.Ytongejajkifccab
