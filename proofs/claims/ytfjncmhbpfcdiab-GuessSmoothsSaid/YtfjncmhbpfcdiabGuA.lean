/- The test of an argument of package guess. -/
import Derived.Test.YtfjncmhbpfcdiabRes
import Derived.Test.YtfjncmhbpfcdiabGuM
set_option linter.unusedVariables false
namespace Go.Proofs.Ytfjncmhbpfcdiab
open Go.RowKit

def SaysG (w : World) (b : Bool) (en : Ending) (w' : World) : Prop := w = w' ∧ en = .returned (.bool b)
def NumG (w : World) (v : Int) (en : Ending) (w' : World) : Prop := w = w' ∧ en = .returned (.int .i64 v)
def DrwG (w : World) (v : Int) (en : Ending) (w' : World) : Prop := ∃ n, w' = w.drewN n ∧ en = .returned (.int .i64 v)

set_option maxHeartbeats 400000 in
theorem gWithin_any (n lo hi : Int) (w : World) : Calls Try.prog 13 #[.int .i64 n, .int .i64 lo, .int .i64 hi] w (SaysG w (cinB n lo hi)) := by
  by_cases h1 : lo ≤ n
  · by_cases h2 : n ≤ hi
    · rw [show cinB n lo hi = true by simp [cinB, h1, h2]]
      go_enter Try.func13, Try.ntmps13
      go_wp2
      go_ret
      exact ⟨rfl, ret_bool (by simp)⟩
    · rw [show cinB n lo hi = false by simp [cinB, h2]]
      have h2' : hi < n := by omega
      clear h2
      go_enter Try.func13, Try.ntmps13
      go_wp2
      go_ret
      exact ⟨rfl, ret_bool (by simp; omega)⟩
  · rw [show cinB n lo hi = false by simp [cinB, h1]]
    have h1' : n < lo := by omega
    clear h1
    go_enter Try.func13, Try.ntmps13
    go_wp2
    go_ret
    exact ⟨rfl, rfl⟩
end Go.Proofs.Ytfjncmhbpfcdiab
