/- What the laws of chapter 8 know of the program. -/
import Derived.Test.YtbffdpcogfmomaaVaShort
set_option linter.unusedVariables false
namespace Go.Proofs.Ytbffdpcogfmomaa
open Go.RowKit

theorem row_own {w : World} {B : Nat} {xs : List Int} (h : w.heap[B]? = some (.cells (cellsV xs) 3 (0, 0))) (hl : xs.length ≤ 1000) (hb : ∀ x ∈ xs, -1000 ≤ x ∧ x ≤ 1000) : Ints w (some ⟨B, 0, none⟩) xs := arrV_ints h hl (fun x hx => by have := hb x hx; omega)
theorem ex_tab (w : World) (b0 b1 b2 b3 : Nat) (h0 : w.heap[b0]? = some (.cells #[.int .i64 0, .int .i64 3, .int .i64 4] 3 (0, 0))) (h1 : w.heap[b1]? = some (.cells #[.int .i64 3, .int .i64 0, .int .i64 5] 3 (0, 0))) (h2 : w.heap[b2]? = some (.cells #[.int .i64 4, .int .i64 5, .int .i64 0] 3 (0, 0)))
    (h3 : w.heap[b3]? = some (.cells #[.slice (some ⟨b0, 0, none⟩) 3 3, .slice (some ⟨b1, 0, none⟩) 3 3, .slice (some ⟨b2, 0, none⟩) 3 3] 23 (0, 0))) : TabAt w (some ⟨b3, 0, none⟩) exW := by
  refine ⟨by decide, .inr ⟨b3, 0, rfl, fun i hi => ?_⟩⟩
  have hi3 : i < 3 := hi
  have e : i = 0 ∨ i = 1 ∨ i = 2 := by omega
  rcases e with rfl | rfl | rfl
  · exact ⟨_, 3, by unfold World.cell?; simp [h3]; rfl, row_own (xs := [0, 3, 4]) h0 (by decide) (by decide)⟩
  · exact ⟨_, 3, by unfold World.cell?; simp [h3]; rfl, row_own (xs := [3, 0, 5]) h1 (by decide) (by decide)⟩
  · exact ⟨_, 3, by unfold World.cell?; simp [h3]; rfl, row_own (xs := [4, 5, 0]) h2 (by decide) (by decide)⟩
theorem alloc4 (w : World) (o0 o1 o2 o3 : Obj) :
    ((((w.alloc o0).alloc o1).alloc o2).alloc o3).heap[w.heap.size]? = some o0 ∧ ((((w.alloc o0).alloc o1).alloc o2).alloc o3).heap[w.heap.size + 1]? = some o1 ∧
    ((((w.alloc o0).alloc o1).alloc o2).alloc o3).heap[w.heap.size + 1 + 1]? = some o2 ∧ ((((w.alloc o0).alloc o1).alloc o2).alloc o3).heap[w.heap.size + 1 + 1 + 1]? = some o3 ∧ Below w.heap.size w ((((w.alloc o0).alloc o1).alloc o2).alloc o3) := by
  obtain ⟨h0, h1, h2, h3, _, _, _⟩ := alloc5 w o0 o1 o2 o3 o3
  have b1 := (Below.refl w.heap.size w).alloc (Nat.le_refl _) o0
  have s1 : (w.alloc o0).heap.size = w.heap.size + 1 := by simp
  have s2 : ((w.alloc o0).alloc o1).heap.size = w.heap.size + 1 + 1 := by simp
  have s3 : (((w.alloc o0).alloc o1).alloc o2).heap.size = w.heap.size + 1 + 1 + 1 := by simp
  have k : ∀ (W : World) (i : Nat) (ob o : Obj), W.heap[i]? = some ob → (W.alloc o).heap[i]? = some ob := fun W i ob o h => by
    rw [((Below.refl _ W).alloc (Nat.le_refl _) o).block i (lt_block h)]; exact h
  refine ⟨k _ _ _ _ (k _ _ _ _ (k _ _ _ _ (heap_alloc_new w o0))), ?_, ?_, ?_, ?_⟩
  · rw [← s1]; exact k _ _ _ _ (k _ _ _ _ (heap_alloc_new _ o1))
  · rw [← s2]; exact k _ _ _ _ (heap_alloc_new _ o2)
  · rw [← s3]; exact heap_alloc_new _ o3
  · exact ((b1.alloc (by omega) o1).alloc (by omega) o2).alloc (by omega) o3
set_option maxRecDepth 100000 in
set_option maxHeartbeats 4000000 in
theorem known8_any (w : World) : Calls Try.prog 19 #[] w (BoolR w true) := by
  have HA := hid (alloc4 w (.cells #[.int .i64 0, .int .i64 3, .int .i64 4] 3) (.cells #[.int .i64 3, .int .i64 0, .int .i64 5] 3) (.cells #[.int .i64 4, .int .i64 5, .int .i64 0] 3) (.cells #[.slice (some ⟨w.heap.size, 0, none⟩) 3 3, .slice (some ⟨w.heap.size + 1, 0, none⟩) 3 3, .slice (some ⟨w.heap.size + 1 + 1, 0, none⟩) 3 3] 23))
  have HS := hid (fun (W : World) (h : TabAt W (some ⟨w.heap.size + 1 + 1 + 1, 0, none⟩) exW) => vShortest_any (some ⟨w.heap.size + 1 + 1 + 1, 0, none⟩) exW 3 W h)
  have HT := hid (fun (W : World) (h : TabAt W (some ⟨w.heap.size + 1 + 1 + 1, 0, none⟩) exW) => vTreeP_any (some ⟨w.heap.size + 1 + 1 + 1, 0, none⟩) exW 3 W h)
  have HB := hid (fun (W : World) (B : Nat) (h : TabAt W (some ⟨w.heap.size + 1 + 1 + 1, 0, none⟩) exW) (hi : Ints W (some ⟨B, 0, none⟩) [0, 0, 0]) => vBoundP_any (some ⟨w.heap.size + 1 + 1 + 1, 0, none⟩) (some ⟨B, 0, none⟩) exW [0, 0, 0] 3 3 W h hi)
  have ev : ptE exW [0, 0, 0] = 0 := by decide +kernel
  rw [ev] at HB
  rw [ex_va] at HS HT
  clear ev
  go_enter Try.func19, Try.ntmps19
  go_wp2_with fail
  obtain ⟨x0, x1, x2, x3, xb⟩ := HA.out
  have T1 := ex_tab _ _ _ _ _ x0 x1 x2 x3
  clear HA x0 x1 x2 x3
  generalize ((((w.alloc (.cells #[.int .i64 0, .int .i64 3, .int .i64 4] 3)).alloc (.cells #[.int .i64 3, .int .i64 0, .int .i64 5] 3)).alloc (.cells #[.int .i64 4, .int .i64 5, .int .i64 0] 3)).alloc (.cells #[.slice (some ⟨w.heap.size, 0, none⟩) 3 3, .slice (some ⟨w.heap.size + 1, 0, none⟩) 3 3, .slice (some ⟨w.heap.size + 1 + 1, 0, none⟩) 3 3] 23)) = w1 at *
  refine (HS.out w1 T1).mono ?_
  rintro e w2 ⟨hb2, (⟨he, _⟩ | ⟨_, v, rfl, hv⟩)⟩
  · exact absurd rfl he
  obtain rfl := hv.eq ex_short
  have T2 := T1.below hb2
  have HB2 := hid (xb.trans (hb2.mono xb.size))
  clear hb2 hv T1 xb HS
  go_wp2_with fail
  refine (HT.out w2 T2).mono ?_
  rintro e w3 ⟨hb3, (⟨he, _⟩ | ⟨_, v, rfl, hv⟩)⟩
  · exact absurd rfl he
  obtain rfl := hv.eq ex_tree
  have T3 := T2.below hb3
  have HB3 := hid (HB2.out.trans (hb3.mono HB2.out.size))
  have hal := (Below.refl w3.heap.size w3).alloc (Nat.le_refl _) (.cells #[.int .i64 0, .int .i64 0, .int .i64 0] 3)
  have HZ := hid (row_own (xs := [0, 0, 0]) (heap_alloc_new w3 (.cells #[.int .i64 0, .int .i64 0, .int .i64 0] 3)) (by decide) (by decide))
  have HT4 := hid (T3.below hal)
  have HB4 := hid (HB3.out.trans (hal.mono HB3.out.size))
  clear hb3 hv T2 T3 hal HT
  go_wp2_with fail
  refine (HB.out _ _ HT4.out HZ.out).mono ?_
  rintro e w5 ⟨hb5, (⟨he, _⟩ | ⟨_, v, rfl, hv⟩)⟩
  · exact absurd rfl he
  obtain rfl := hv.eq ex_bound
  have HB5 := hid (HB4.out.trans (hb5.mono HB4.out.size))
  clear hb5 hv HB HT4 HZ
  go_wp2
  go_ret
  exact ⟨HB5.out, rfl⟩
end Go.Proofs.Ytbffdpcogfmomaa
