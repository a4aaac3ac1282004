/- Which rest stands before another: before of package share. -/
import Derived.Test.YtnjaacmcdkiilaaShD
import Derived.Test.YtnjaacmcdkiilaaShRemM
import Derived.Sort.Grow
set_option linter.unusedVariables false
namespace Go.Proofs.Ytnjaacmcdkiilaa
open Go.RowKit

/-- Draws and new blocks alone. -/
def Gr (w w' : World) : Prop := ∃ (q : Nat) (os : Array Obj), w' = Go.Sort.grow (w.drewN q) os
theorem Gr.refl (w : World) : Gr w w := ⟨0, #[], by simp [Go.Sort.grow, World.drewN]⟩
theorem Gr.drew {w w' : World} (h : Gr w w') : Gr w w'.drew := by
  obtain ⟨q, os, rfl⟩ := h
  exact ⟨q + 1, os, rfl⟩
theorem Gr.alloc {w w' : World} (h : Gr w w') (o : Obj) : Gr w (w'.alloc o) := by
  obtain ⟨q, os, rfl⟩ := h
  exact ⟨q, os ++ #[o], by rw [Go.Sort.alloc_eq_grow, Go.Sort.grow_grow]⟩
def RstS (w0 : World) (g : Nat) (k l k2 l2 : Int) (w : World) : Prop := w.cell? ⟨g, 0, none⟩ = some (.int .i64 k) ∧ w.cell? ⟨g, 1, none⟩ = some (.int .i64 l) ∧ w.cell? ⟨g + 1, 0, none⟩ = some (.int .i64 k2) ∧ w.cell? ⟨g + 1, 1, none⟩ = some (.int .i64 l2) ∧ Gr w0 w
theorem RstS.keep0 {w0 : World} {g : Nat} {k l k2 l2 : Int} {w w2 : World} (h : RstS w0 g k l k2 l2 w) (hb : Below w.heap.size w w2) (hg : Gr w0 w2) : RstS w0 g k l k2 l2 w2 := by
  obtain ⟨a0, a1, b0, b1, p⟩ := h
  exact ⟨by rw [hb.cell (cell_lt a0)]; exact a0, by rw [hb.cell (cell_lt a1)]; exact a1, by rw [hb.cell (cell_lt b0)]; exact b0, by rw [hb.cell (cell_lt b1)]; exact b1, hg⟩
theorem RstS.drew {w0 : World} {g : Nat} {k l k2 l2 : Int} {w : World} (h : RstS w0 g k l k2 l2 w) : RstS w0 g k l k2 l2 w.drew := h.keep0 (Below.refl _ _).drew h.2.2.2.2.drew
theorem RstS.alloc {w0 : World} {g : Nat} {k l k2 l2 : Int} {w : World} (h : RstS w0 g k l k2 l2 w) (o : Obj) : RstS w0 g k l k2 l2 (w.alloc o) := h.keep0 ((Below.refl _ _).alloc (Nat.le_refl _) o) (h.2.2.2.2.alloc o)
/-- What before answers. -/
def bfI (k l k2 l2 : Int) : Int := if cmpI l2 l = 0 then cmpI k k2 else cmpI l2 l

set_option maxRecDepth 100000 in
set_option maxHeartbeats 2000000 in
theorem before_any (k l k2 l2 : Int) (w : World) :
  Calls Try.prog 92 #[.agg #[.int .i64 k, .int .i64 l], .agg #[.int .i64 k2, .int .i64 l2]] w fun en w' => en = .returned (.int .i64 (bfI k l k2 l2)) ∧ Gr w w' := by
  have HO := hid (fun g cap w h0 h1 => or2_any g cap (cmpI l2 l) (cmpI k k2) w h0 h1 (cmpI_bd _ _) (cmpI_bd _ _))
  have HR := hid (show bfI k l k2 l2 = if cmpI l2 l = 0 then cmpI k k2 else cmpI l2 l from rfl)
  rw [← HR.out] at HO
  clear HR
  have S0 := hid (show RstS w w.heap.size k l k2 l2 ((w.alloc (.cells #[.int .i64 k, .int .i64 l] 96)).alloc (.cells #[.int .i64 k2, .int .i64 l2] 96)) from
    ⟨by go_simp, by go_simp, by go_simp, by go_simp, ((Gr.refl w).alloc _).alloc _⟩)
  generalize bfI k l k2 l2 = r at *
  go_enter Try.func92, Try.ntmps92
  go_wp2_with fail
  go_region_held3 (fun w' => w'.cell? ⟨w.heap.size, 0, none⟩ = some (.int .i64 k) ∧ w'.cell? ⟨w.heap.size, 1, none⟩ = some (.int .i64 l) ∧ w'.cell? ⟨w.heap.size + 1, 0, none⟩ = some (.int .i64 k2) ∧ w'.cell? ⟨w.heap.size + 1, 1, none⟩ = some (.int .i64 l2) ∧ Gr w w') (first | assumption | exact S0.out.drew | exact S0.out | exact RstS.alloc (by assumption) _)
    (first | (go_at_call 88; refine (compare_any _ _ _).mono ?_; rintro en w5 ⟨rfl, rfl⟩) | (go_at_call 87; refine (HO.out _ _ _ (by go_simp) (by go_simp)).mono ?_; rintro en w6 ⟨rfl, rfl⟩))
  rename _ ∧ _ => hHeld
  obtain ⟨_, _, _, _, hb⟩ := hHeld
  go_wp2
  go_ret
  exact ⟨rfl, hb⟩
end Go.Proofs.Ytnjaacmcdkiilaa
