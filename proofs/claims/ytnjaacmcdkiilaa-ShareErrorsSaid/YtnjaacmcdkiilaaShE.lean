/- The steps of a kind of rounding. -/
import Derived.Test.YtnjaacmcdkiilaaShA
import Derived.Deep.RegionHeld3
import Derived.Deep.QuietTactic
import Derived.BigQuiet
import Derived.Laws.EntriesVeiled
set_option linter.unusedVariables false
namespace Go.Proofs.Ytnjaacmcdkiilaa
open Go.RowKit

set_option maxHeartbeats 400000 in
theorem step0_any (k : Int) (w : World) (h0 : 0 ≤ k) (h1 : k ≤ 1001) : Calls Try.prog 84 #[.int .i64 k] w fun en w' => w = w' ∧ en = .returned (.int .i64 (stepV 0 k)) := by
  go_enter Try.func84, Try.ntmps84
  go_wp2
  go_ret
  exact ⟨rfl, ret_int (by simp [stepV])⟩
set_option maxHeartbeats 400000 in
theorem step1_any (k : Int) (w : World) (h0 : 0 ≤ k) (h1 : k ≤ 1001) : Calls Try.prog 85 #[.int .i64 k] w fun en w' => w = w' ∧ en = .returned (.int .i64 (stepV 1 k)) := by
  go_enter Try.func85, Try.ntmps85
  go_wp2
  go_ret
  exact ⟨rfl, ret_int (by simp [stepV])⟩
set_option maxHeartbeats 400000 in
theorem step2_any (k : Int) (w : World) : Calls Try.prog 86 #[.int .i64 k] w fun en w' => w = w' ∧ en = .returned (.int .i64 (stepV 2 k)) := by
  go_enter Try.func86, Try.ntmps86
  go_wp2
  go_ret
  exact ⟨rfl, ret_int (by simp [stepV])⟩

/-- The steps of a kind, as a value: the function of the step, and the unit. -/
def stepsV (kind : Int) : Value := .agg #[.func (.func (if kind = 0 then 84 else if kind = 1 then 85 else 86)) #[] #[], .int .i64 (if kind = 1 then 2 else 1)]
set_option maxHeartbeats 1000000 in
theorem stepsOf_0 (w : World) : Calls Try.prog 52 #[.int .i64 0] w fun en w' => Below w.heap.size w w' ∧ en = .returned (stepsV 0) := by
  go_enter Try.func52, Try.ntmps52
  go_wp2
  exact bodyPost_ret (v := .agg #[.func (.func 84) #[] #[], .int .i64 1]) (by simp [results, Try.results52, go_sem]) rfl ⟨by repeat (first | exact Below.refl _ _ | refine Below.alloc ?_ (by simp <;> omega) _ | refine Below.setCell ?_ (by simp <;> omega) _), rfl⟩
set_option maxHeartbeats 1000000 in
theorem stepsOf_1 (w : World) : Calls Try.prog 52 #[.int .i64 1] w fun en w' => Below w.heap.size w w' ∧ en = .returned (stepsV 1) := by
  go_enter Try.func52, Try.ntmps52
  go_wp2
  exact bodyPost_ret (v := .agg #[.func (.func 85) #[] #[], .int .i64 2]) (by simp [results, Try.results52, go_sem]) rfl ⟨by repeat (first | exact Below.refl _ _ | refine Below.alloc ?_ (by simp <;> omega) _ | refine Below.setCell ?_ (by simp <;> omega) _), rfl⟩
set_option maxHeartbeats 1000000 in
theorem stepsOf_2 (w : World) : Calls Try.prog 52 #[.int .i64 2] w fun en w' => Below w.heap.size w w' ∧ en = .returned (stepsV 2) := by
  go_enter Try.func52, Try.ntmps52
  go_wp2
  exact bodyPost_ret (v := .agg #[.func (.func 86) #[] #[], .int .i64 1]) (by simp [results, Try.results52, go_sem]) rfl ⟨by repeat (first | exact Below.refl _ _ | refine Below.alloc ?_ (by simp <;> omega) _ | refine Below.setCell ?_ (by simp <;> omega) _), rfl⟩
theorem stepsOf_any (kind : Int) (w : World) (h : okK kind = true) : Calls Try.prog 52 #[.int .i64 kind] w fun en w' => Below w.heap.size w w' ∧ en = .returned (stepsV kind) := by
  rcases okK_cases h with rfl | rfl | rfl
  · exact stepsOf_0 w
  · exact stepsOf_1 w
  · exact stepsOf_2 w
end Go.Proofs.Ytnjaacmcdkiilaa
