/- Which of two batches may come first: package kitchen, and the document's own. -/
import Derived.Test.YteolckphafblmaaKiA
set_option linter.unusedVariables false
namespace Go.Proofs.Yteolckphafblmaa
open Go.RowKit

def BefR (w : World) (x y u v : Int) (b : Bool) (en : Ending) (w' : World) : Prop := Below w.heap.size w w' ∧ en = .returned (.bool b)
set_option maxRecDepth 100000 in
set_option maxHeartbeats 1000000 in
theorem kBefore_any (x y u v : Int) (w : World) : Calls Try.prog 30 #[.agg #[.int .i64 x, .int .i64 y], .agg #[.int .i64 u, .int .i64 v]] w (BoolR w (befB (x, y) (u, v))) := by
  have P := hid (((Below.refl w.heap.size w).alloc (Nat.le_refl _) (.cells #[.int .i64 x, .int .i64 y] 40)).alloc (by simp) (.cells #[.int .i64 u, .int .i64 v] 40))
  have HE := hid (show befB (x, y) (u, v) = decide (min x v ≤ min u y) from rfl)
  go_enter Try.func30, Try.ntmps30
  go_wp2
  all_goals
    go_ret
    exact ⟨P.out, by rw [HE.out]; exact ret_bool (decide_eq_decide.2 (by omega))⟩
set_option maxRecDepth 100000 in
set_option maxHeartbeats 1000000 in
theorem krBefore_any (x y u v : Int) (w : World) : Calls Try.prog 31 #[.agg #[.int .i64 x, .int .i64 y], .agg #[.int .i64 u, .int .i64 v]] w (BoolR w (befB (x, y) (u, v))) := by
  have P := hid (((Below.refl w.heap.size w).alloc (Nat.le_refl _) (.cells #[.int .i64 x, .int .i64 y] 40)).alloc (by simp) (.cells #[.int .i64 u, .int .i64 v] 40))
  have HE := hid (show befB (x, y) (u, v) = decide (min x v ≤ min u y) from rfl)
  go_enter Try.func31, Try.ntmps31
  go_wp2
  all_goals
    go_ret
    exact ⟨P.out, by rw [HE.out]; exact ret_bool (decide_eq_decide.2 (by omega))⟩
theorem bef_one (a b : Bt) : befB a b = true ∨ befB b a = true := by
  unfold befB
  rw [decide_eq_true_iff, decide_eq_true_iff]; omega
end Go.Proofs.Yteolckphafblmaa
