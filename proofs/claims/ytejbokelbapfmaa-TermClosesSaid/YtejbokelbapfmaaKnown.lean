/- The law's own check of two known answers. -/
import Derived.Test.YtejbokelbapfmaaMenu
import Derived.Test.YtejbokelbapfmaaSolve
set_option linter.unusedVariables false
namespace Go.Proofs.Ytejbokelbapfmaa
open Go.RowKit

theorem known_solve : solveL [(2, 3), (3, 5)] = (8, 15, true, 0) := by
  simp [solveL, checkL, anyBad, badModulus, lcmTo, solveFrom, joinL, egcd]
theorem known_menu : menuL 14 [5, 6] [2] 3 0 1 3 = (0, 0) := by decide +kernel

set_option maxRecDepth 100000 in
set_option maxHeartbeats 1000000 in
theorem known_any (w : World) : Calls Try.prog 16 #[] w (BoolR w true) := by
  go_enter Try.func16, Try.ntmps16
  go_wp2_with fail
  obtain ⟨wq, hwq⟩ : ∃ wq, ((w.alloc (.cells #[.int .i64 5, .int .i64 6] 3)).alloc (.cells #[.int .i64 2] 3)).alloc (.cells #[.int .i64 14, .slice (some ⟨w.heap.size, 0, none⟩) 2 2, .slice (some ⟨w.heap.size + 1, 0, none⟩) 1 1] 24) = wq := ⟨_, rfl⟩
  have q1 : Below w.heap.size w wq := by
    rw [← hwq]
    repeat (first | exact Below.refl _ _ | refine Below.alloc ?_ (by simp <;> omega) _)
  have hsz : wq.heap.size = w.heap.size + 1 + 1 + 1 := by rw [← hwq]; simp
  have hT : TermAt wq 14 (some ⟨w.heap.size, 0, none⟩) [5, 6] (some ⟨w.heap.size + 1, 0, none⟩) [2] := by
    refine ⟨⟨by simp, .inr ⟨_, _, rfl, fun i hi => ?_⟩, by simp⟩, ⟨by simp, .inr ⟨_, _, rfl, fun i hi => ?_⟩, by simp⟩, by omega, by omega⟩
    · have : i = 0 ∨ i = 1 := by simp at hi; omega
      rcases this with rfl | rfl <;> (rw [← hwq]; clear hwq; go_simp)
    · obtain rfl : i = 0 := by simp at hi; omega
      rw [← hwq]; clear hwq; go_simp
  have H := menu_any 14 (some ⟨w.heap.size, 0, none⟩) [5, 6] 2 (some ⟨w.heap.size + 1, 0, none⟩) [2] 1 3 0 1 3 wq hT
  simp only [List.length_cons, List.length_nil, Nat.zero_add, Nat.reduceAdd] at H
  rw [known_menu] at H
  rw [hwq]
  clear hwq hT
  refine H.mono ?_
  clear H
  rintro e w1 ⟨hb1, rfl⟩
  have p1 := q1.trans (hb1.mono (by omega))
  go_wp2_with fail
  have hT : Lines (w1.alloc (.cells #[.int .i64 2, .int .i64 3, .int .i64 3, .int .i64 5] 64)) (some ⟨w1.heap.size, 0, none⟩) [(2, 3), (3, 5)] := by
    refine ⟨by simp, .inr ⟨_, _, rfl, fun i hi => ?_⟩, by simp⟩
    have : i = 0 ∨ i = 1 := by simp at hi; omega
    rcases this with rfl | rfl <;> (constructor <;> go_simp)
  have H := solve_any (some ⟨w1.heap.size, 0, none⟩) [(2, 3), (3, 5)] 2 _ hT
  simp only [List.length_cons, List.length_nil, Nat.zero_add, Nat.reduceAdd] at H
  rw [known_solve] at H
  refine H.mono ?_
  clear H
  rintro e w2 ⟨hb2, rfl⟩
  have p2 := (p1.alloc p1.size _).trans (hb2.mono (by have := p1.size; simp; omega))
  go_wp2
  go_ret
  exact ⟨p2, rfl⟩

end Go.Proofs.Ytejbokelbapfmaa
