/- What the laws of chapter 7 know of the program. -/
import Derived.Test.YthogliblgcccnaaKiD
import Derived.Test.YthogliblgcccnaaKiHt
set_option linter.unusedVariables false
namespace Go.Proofs.Ythogliblgcccnaa
open Go.RowKit

theorem known_time : timeV [(3, 6), (7, 2), (4, 7)] [0, 2, 1] = (18, 0) := by decide +kernel
theorem known_cool : coolV 805 200 9 10 1 = (744, 0) := by decide +kernel
set_option maxRecDepth 100000 in
set_option maxHeartbeats 1000000 in
theorem known7_any (w : World) : Calls Try.prog 18 #[] w (BoolR w true) := by
  have HT := hid (kTime_any (some ⟨w.heap.size, 0, none⟩) (some ⟨w.heap.size + 1, 0, none⟩) [(3, 6), (7, 2), (4, 7)] [0, 2, 1] 3 3 ((w.alloc (.cells #[.int .i64 3, .int .i64 6, .int .i64 7, .int .i64 2, .int .i64 4, .int .i64 7] 40)).alloc (.cells #[.int .i64 0, .int .i64 2, .int .i64 1] 3))
    ⟨by simp, .inr ⟨w.heap.size, 0, rfl, fun i hi => by
      have : i = 0 ∨ i = 1 ∨ i = 2 := by simp at hi; omega
      rcases this with rfl | rfl | rfl <;> go_simp <;> exact ⟨rfl, rfl⟩⟩, by simp⟩
    ⟨by simp, .inr ⟨w.heap.size + 1, 0, rfl, fun i hi => by
      have : i = 0 ∨ i = 1 ∨ i = 2 := by simp at hi; omega
      rcases this with rfl | rfl | rfl <;> go_simp <;> rfl⟩, by simp⟩)
  rw [known_time] at HT
  have HC := hid (fun W => kCool_any 805 200 9 10 1 W)
  rw [known_cool] at HC
  go_enter Try.func18, Try.ntmps18
  go_wp2_with fail
  refine HT.out.mono ?_
  rintro e w1 ⟨hb1, rfl⟩
  have P1 := hid ((((Below.refl w.heap.size w).alloc (Nat.le_refl _) _).alloc (by simp) _).trans (hb1.mono (by simp; omega)))
  clear hb1
  go_wp2_with fail
  refine (HC.out _).mono ?_
  rintro e w2 ⟨rfl, rfl⟩
  go_wp2
  go_ret
  exact ⟨P1.out, rfl⟩
end Go.Proofs.Ythogliblgcccnaa
