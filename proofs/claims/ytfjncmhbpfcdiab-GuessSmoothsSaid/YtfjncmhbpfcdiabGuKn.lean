/- What the laws of chapter 6 know of the program. -/
import Derived.Test.YtfjncmhbpfcdiabGuBd
import Derived.Test.YtfjncmhbpfcdiabGuCp
set_option linter.unusedVariables false
namespace Go.Proofs.Ytfjncmhbpfcdiab
open Go.RowKit

theorem known_bound : boundV 8 0 = (7, 0) := by decide +kernel
theorem known_qnt : qntV [1, 1, 1] 1 3 = (2, 0) := by decide +kernel
set_option maxRecDepth 100000 in
set_option maxHeartbeats 1000000 in
theorem known6_any (w : World) : Calls Try.prog 8 #[] w (BoolR w true) := by
  have HB := hid (fun W => gBound_any 8 0 W)
  rw [known_bound] at HB
  have HQ := hid (gQntP_any (some ⟨w.heap.size, 0, none⟩) [1, 1, 1] 3 1 3 (w.alloc (.cells #[.int .i64 1, .int .i64 1, .int .i64 1] 3))
    ⟨by simp, .inr ⟨w.heap.size, 0, rfl, fun i hi => by
      have : i = 0 ∨ i = 1 ∨ i = 2 := by simp at hi; omega
      rcases this with rfl | rfl | rfl <;> go_simp <;> rfl⟩, by simp⟩)
  rw [known_qnt] at HQ
  go_enter Try.func8, Try.ntmps8
  go_wp2_with fail
  refine (HB.out _).mono ?_
  rintro e w1 ⟨rfl, rfl⟩
  go_wp2_with fail
  refine HQ.out.mono ?_
  rintro e w1 ⟨rfl, rfl⟩
  go_wp2
  go_ret
  exact ⟨(Below.refl _ _).alloc (Nat.le_refl _) _, rfl⟩
end Go.Proofs.Ytfjncmhbpfcdiab
