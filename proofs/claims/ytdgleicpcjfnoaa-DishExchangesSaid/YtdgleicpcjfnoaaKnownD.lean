/- The laws' own check of two known answers of package dish. -/
import Derived.Test.YtdgleicpcjfnoaaLabel
import Derived.Test.YtdgleicpcjfnoaaSame
set_option linter.unusedVariables false
namespace Go.Proofs.Ytdgleicpcjfnoaa
open Go.RowKit

theorem known_label : labelL 3 [([], [0]), ([], [1]), ([0, 1], [])] [([0, 1], 2)] 2 = ([0, 1, 2], 0) := by decide +kernel
theorem known_menus : menusR [3, 6] 3 = ([2, 5], 0) := by decide +kernel

set_option maxRecDepth 100000 in
set_option maxHeartbeats 4000000 in
theorem knownD_any (w : World) : Calls Try.prog 15 #[] w (BoolR w true) := by
  go_enter Try.func15, Try.ntmps15
  go_wp2_with fail
  generalize hwq : World.alloc (World.alloc _ _) (.cells #[.int .i64 3, _, _] _) = wq
  have q1 : Below w.heap.size w wq := by
    rw [← hwq]
    repeat (first | exact Below.refl _ _ | refine Below.alloc ?_ (by simp <;> omega) _)
  have hsz : wq.heap.size = w.heap.size + 1 + 1 + 1 + 1 + 1 + 1 + 1 := by rw [← hwq]; simp
  have hT : BookAt wq 3 (some ⟨w.heap.size + 1 + 1 + 1, 0, none⟩) [([], [0]), ([], [1]), ([0, 1], [])] (some ⟨w.heap.size + 1 + 1 + 1 + 1 + 1, 0, none⟩) [([0, 1], 2)] := by
    have i0 : Ints wq (some ⟨w.heap.size, 0, none⟩) [0] := ⟨by simp, .inr ⟨_, _, rfl, fun i hi => by
      obtain rfl : i = 0 := by simp at hi; omega
      rw [← hwq]; clear hwq; go_simp⟩, by simp⟩
    have i1 : Ints wq (some ⟨w.heap.size + 1, 0, none⟩) [1] := ⟨by simp, .inr ⟨_, _, rfl, fun i hi => by
      obtain rfl : i = 0 := by simp at hi; omega
      rw [← hwq]; clear hwq; go_simp⟩, by simp⟩
    have i2 : Ints wq (some ⟨w.heap.size + 1 + 1, 0, none⟩) [0, 1] := ⟨by simp, .inr ⟨_, _, rfl, fun i hi => by
      have : i = 0 ∨ i = 1 := by simp at hi; omega
      rcases this with rfl | rfl <;> (rw [← hwq]; clear hwq; go_simp)⟩, by simp⟩
    have i3 : Ints wq (some ⟨w.heap.size + 1 + 1 + 1 + 1, 0, none⟩) [0, 1] := ⟨by simp, .inr ⟨_, _, rfl, fun i hi => by
      have : i = 0 ∨ i = 1 := by simp at hi; omega
      rcases this with rfl | rfl <;> (rw [← hwq]; clear hwq; go_simp)⟩, by simp⟩
    have i4 : Ints wq none [] := ⟨by simp, .inl rfl, by simp⟩
    refine ⟨⟨by simp, .inr ⟨_, _, rfl, fun i hi => ?_⟩⟩, ⟨by simp, .inr ⟨_, _, rfl, fun i hi => ?_⟩⟩, by omega, by omega⟩
    · have : i = 0 ∨ i = 1 ∨ i = 2 := by simp at hi; omega
      rcases this with rfl | rfl | rfl
      · exact ⟨none, 0, _, 1, by rw [← hwq]; clear hwq i0 i1 i2 i3 i4; go_simp, by rw [← hwq]; clear hwq i0 i1 i2 i3 i4; go_simp, i4, i0⟩
      · exact ⟨none, 0, _, 1, by rw [← hwq]; clear hwq i0 i1 i2 i3 i4; go_simp, by rw [← hwq]; clear hwq i0 i1 i2 i3 i4; go_simp, i4, i1⟩
      · exact ⟨_, 2, none, 0, by rw [← hwq]; clear hwq i0 i1 i2 i3 i4; go_simp, by rw [← hwq]; clear hwq i0 i1 i2 i3 i4; go_simp, i2, i4⟩
    · obtain rfl : i = 0 := by simp at hi; omega
      exact ⟨_, 2, by rw [← hwq]; clear hwq i0 i1 i2 i3 i4; go_simp, by rw [← hwq]; clear hwq i0 i1 i2 i3 i4; go_simp, i3, by simp⟩
  have H := labelE_any 3 (some ⟨w.heap.size + 1 + 1 + 1, 0, none⟩) [([], [0]), ([], [1]), ([0, 1], [])] 3 (some ⟨w.heap.size + 1 + 1 + 1 + 1 + 1, 0, none⟩) [([0, 1], 2)] 1 2 wq hT
  simp only [List.length_cons, List.length_nil, Nat.zero_add, Nat.reduceAdd] at H
  rw [known_label] at H
  clear hwq hT
  refine H.mono ?_
  clear H
  rintro e w1 ⟨hb1, A, c, rfl, hown⟩
  have p1 := q1.trans (hb1.mono (by omega))
  have hs1 := hb1.size
  obtain ⟨A', c', hv, hI⟩ := hown.ints (by simp) (by simp)
  cases hv
  clear hown
  dsimp only [List.length_cons, List.length_nil, Nat.zero_add, Nat.reduceAdd]
  go_wp2_with fail
  have hT : Ints (w1.alloc (.cells #[.int .i64 3, .int .i64 6] 3)) (some ⟨w1.heap.size, 0, none⟩) [3, 6] := by
    refine ⟨by simp, .inr ⟨_, _, rfl, fun i hi => ?_⟩, by simp⟩
    have : i = 0 ∨ i = 1 := by simp at hi; omega
    rcases this with rfl | rfl <;> go_simp
  have H := tmenus_any (some ⟨w1.heap.size, 0, none⟩) [3, 6] 2 3 _ hT
  simp only [List.length_cons, List.length_nil, Nat.zero_add, Nat.reduceAdd] at H
  rw [known_menus] at H
  refine H.mono ?_
  clear H hT
  rintro e w2 ⟨hb2, A2, c2, rfl, hown2⟩
  have p2 := (p1.alloc p1.size _).trans (hb2.mono (by have := p1.size; simp; omega))
  obtain ⟨A2', c2', hv, hM⟩ := hown2.ints (by simp) (by simp)
  cases hv
  clear hown2
  have hI2 := (hI.below ((Below.refl w1.heap.size w1).alloc (Nat.le_refl _) (.cells #[.int .i64 3, .int .i64 6] 3))).below hb2
  dsimp only [List.length_cons, List.length_nil, Nat.zero_add, Nat.reduceAdd]
  go_wp2_with fail
  have hB3 := (Below.refl w2.heap.size w2).alloc (Nat.le_refl _) (.cells #[.int .i64 0, .int .i64 1, .int .i64 2] 3)
  have hY : Ints (w2.alloc (.cells #[.int .i64 0, .int .i64 1, .int .i64 2] 3)) (some ⟨w2.heap.size, 0, none⟩) [0, 1, 2] := by
    refine ⟨by simp, .inr ⟨_, _, rfl, fun i hi => ?_⟩, by simp⟩
    have : i = 0 ∨ i = 1 ∨ i = 2 := by simp at hi; omega
    rcases this with rfl | rfl | rfl <;> go_simp
  have H := same_any A (some ⟨w2.heap.size, 0, none⟩) [0, 1, 2] [0, 1, 2] c 3 _ (hI2.below hB3) hY
  simp only [List.length_cons, List.length_nil, Nat.zero_add, Nat.reduceAdd] at H
  rw [show sameB [0, 1, 2] [0, 1, 2] = true by decide] at H
  refine H.mono ?_
  clear H hY
  rintro e w3 ⟨⟨n, hw3⟩, rfl⟩
  have q3 : Below w2.heap.size w2 w3 := by rw [hw3]; exact below_drewN hB3 _
  clear hw3 hB3
  have p3 := p2.trans (q3.mono p2.size)
  go_wp2_with fail
  have hB4 := (Below.refl w3.heap.size w3).alloc (Nat.le_refl _) (.cells #[.int .i64 2, .int .i64 5] 3)
  have hY : Ints (w3.alloc (.cells #[.int .i64 2, .int .i64 5] 3)) (some ⟨w3.heap.size, 0, none⟩) [2, 5] := by
    refine ⟨by simp, .inr ⟨_, _, rfl, fun i hi => ?_⟩, by simp⟩
    have : i = 0 ∨ i = 1 := by simp at hi; omega
    rcases this with rfl | rfl <;> go_simp
  have H := same_any A2 (some ⟨w3.heap.size, 0, none⟩) [2, 5] [2, 5] c2 2 _ ((hM.below q3).below hB4) hY
  simp only [List.length_cons, List.length_nil, Nat.zero_add, Nat.reduceAdd] at H
  rw [show sameB [2, 5] [2, 5] = true by decide] at H
  refine H.mono ?_
  clear H hY
  rintro e w4 ⟨⟨n, hw4⟩, rfl⟩
  have q4 : Below w3.heap.size w3 w4 := by rw [hw4]; exact below_drewN hB4 _
  clear hw4 hB4
  go_wp2
  go_ret
  exact ⟨p3.trans (q4.mono p3.size), rfl⟩

end Go.Proofs.Ytdgleicpcjfnoaa
