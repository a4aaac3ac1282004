/- What the laws of chapter 5 know. -/
import Derived.Test.YtkepjoociidkcaaOrV
import Derived.Test.YtkepjoociidkcaaOrW
set_option linter.unusedVariables false
namespace Go.Proofs.Ytkepjoociidkcaa
open Go.RowKit

def twoF : List Fct := [⟨10, 1, 0, 5, 2⟩, ⟨20, 1, 3, 4, 0⟩]
theorem two_spans : spansL twoF 20 1 = ([⟨0, 3, 2⟩, ⟨4, 5, 2⟩], 0) := by kernel_rfl
theorem two_changed : changedL twoF 15 20 1 = ([⟨3, 4, 0⟩], 0) := by kernel_rfl
theorem two_at (w : World) : FactsAt (w.alloc (.cells #[.int .i64 10, .int .i64 1, .int .i64 0, .int .i64 5, .int .i64 2, .int .i64 20, .int .i64 1, .int .i64 3, .int .i64 4, .int .i64 0] 24)) (some ⟨w.heap.size, 0, none⟩) twoF := by
  refine ⟨by decide, .inr ⟨w.heap.size, 0, rfl, fun i hi => ?_⟩⟩
  have hi2 : i < 2 := hi
  match i, hi2 with
  | 0, _ => refine ⟨?_, ?_, ?_, ?_, ?_⟩ <;> (show World.cell? _ _ = some (.int .i64 _); go_simp; rfl)
  | 1, _ => refine ⟨?_, ?_, ?_, ?_, ?_⟩ <;> (show World.cell? _ _ = some (.int .i64 _); go_simp; rfl)

theorem spns_two (w : World) (f1 t1 m1 f2 t2 m2 : Int) : SpnsAt (w.alloc (.cells #[.int .i64 f1, .int .i64 t1, .int .i64 m1, .int .i64 f2, .int .i64 t2, .int .i64 m2] 66)) (some ⟨w.heap.size, 0, none⟩) [⟨f1, t1, m1⟩, ⟨f2, t2, m2⟩] := by
  refine ⟨by simp, .inr ⟨w.heap.size, 0, rfl, fun i hi => ?_⟩⟩
  have hi2 : i < 2 := hi
  match i, hi2 with
  | 0, _ => refine ⟨?_, ?_, ?_⟩ <;> (show World.cell? _ _ = some (.int .i64 _); go_simp; rfl)
  | 1, _ => refine ⟨?_, ?_, ?_⟩ <;> (show World.cell? _ _ = some (.int .i64 _); go_simp; rfl)
theorem spns_one (w : World) (f1 t1 m1 : Int) : SpnsAt (w.alloc (.cells #[.int .i64 f1, .int .i64 t1, .int .i64 m1] 66)) (some ⟨w.heap.size, 0, none⟩) [⟨f1, t1, m1⟩] := by
  refine ⟨by simp, .inr ⟨w.heap.size, 0, rfl, fun i hi => ?_⟩⟩
  have hi2 : i < 1 := hi
  match i, hi2 with
  | 0, _ => refine ⟨?_, ?_, ?_⟩ <;> (show World.cell? _ _ = some (.int .i64 _); go_simp; rfl)

set_option maxRecDepth 100000 in
set_option maxHeartbeats 4000000 in
theorem known5_any (w : World) : Calls Try.prog 13 #[] w (BoolR w true) := by
  have HL := hid (two_at w)
  have hB0 := hid ((Below.refl w.heap.size w).alloc (Nat.le_refl _) (.cells #[.int .i64 10, .int .i64 1, .int .i64 0, .int .i64 5, .int .i64 2, .int .i64 20, .int .i64 1, .int .i64 3, .int .i64 4, .int .i64 0] 24))
  go_enter Try.func13, Try.ntmps13
  go_wp2_with fail
  obtain ⟨W0, hW0⟩ : ∃ W0, w.alloc (.cells #[.int .i64 10, .int .i64 1, .int .i64 0, .int .i64 5, .int .i64 2, .int .i64 20, .int .i64 1, .int .i64 3, .int .i64 4, .int .i64 0] 24) = W0 := ⟨_, rfl⟩
  rw [hW0] at HL hB0 ⊢
  clear hW0
  refine (Spans_any (some ⟨w.heap.size, 0, none⟩) twoF 2 20 1 _ HL.out (Nat.le_refl _)).mono ?_
  rw [two_spans]
  rintro e w1 ⟨q1, A, c, rfl, hA⟩
  have HA := hid hA
  clear hA
  go_wp2_with fail
  refine (Changed_any (some ⟨w.heap.size, 0, none⟩) twoF 2 15 20 1 _ (HL.out.below q1) (Nat.le_refl _)).mono ?_
  rw [two_changed]
  rintro e w2 ⟨q2, B, d, rfl, hB⟩
  have HB := hid hB
  have p2 := hB0.out.trans ((q1.trans (q2.mono q1.size)).mono hB0.out.size)
  clear hB
  have HA2 := hid (HA.out.below q2)
  have HS1 := hid (sameSpans_any A (some ⟨w2.heap.size, 0, none⟩) [⟨0, 3, 2⟩, ⟨4, 5, 2⟩] c 2 _ (HA2.out.below ((Below.refl _ _).alloc (Nat.le_refl _) _)) (spns_two w2 0 3 2 4 5 2))
  go_wp2_with fail
  refine HS1.out.mono ?_
  rintro e w' ⟨n, rfl, rfl⟩
  have hBx : Below w2.heap.size w2 ((w2.alloc (.cells #[.int .i64 0, .int .i64 3, .int .i64 2, .int .i64 4, .int .i64 5, .int .i64 2] 66)).drewN n) := below_drewN ((Below.refl _ _).alloc (Nat.le_refl _) _) n
  have hsx : w2.heap.size + 1 = ((w2.alloc (.cells #[.int .i64 0, .int .i64 3, .int .i64 2, .int .i64 4, .int .i64 5, .int .i64 2] 66)).drewN n).heap.size := by simp
  generalize (w2.alloc (.cells #[.int .i64 0, .int .i64 3, .int .i64 2, .int .i64 4, .int .i64 5, .int .i64 2] 66)).drewN n = w3 at *
  have HB3 := hid (HB.out.below hBx)
  have HS2 := hid (sameSpans_any B (some ⟨w3.heap.size, 0, none⟩) [⟨3, 4, 0⟩] d 1 _ (HB3.out.below ((Below.refl _ _).alloc (Nat.le_refl _) _)) (spns_one w3 3 4 0))
  have p3 := p2.trans (hBx.mono p2.size)
  clear hsx hBx HS1
  go_wp2_with fail
  refine HS2.out.mono ?_
  rintro e w' ⟨n2, rfl, rfl⟩
  go_wp2
  go_ret
  exact ⟨below_drewN (p3.alloc p3.size _) _, rfl⟩
end Go.Proofs.Ytkepjoociidkcaa
