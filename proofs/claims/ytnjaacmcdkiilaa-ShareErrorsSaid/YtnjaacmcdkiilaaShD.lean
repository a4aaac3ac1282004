/- Comparing claims: rank of package share. -/
import Derived.Test.YtnjaacmcdkiilaaShC
set_option linter.unusedVariables false
namespace Go.Proofs.Ytnjaacmcdkiilaa
open Go.RowKit

theorem or2_any (g cap : Nat) (x y : Int) (w : World) (h0 : w.cell? ⟨g, 0, none⟩ = some (.int .i64 x)) (h1 : w.cell? ⟨g, 1, none⟩ = some (.int .i64 y)) (hx : -9223372036854775808 ≤ x ∧ x ≤ 9223372036854775807) (hy : -9223372036854775808 ≤ y ∧ y ≤ 9223372036854775807) :
    Calls Try.prog 87 #[.slice (some ⟨g, 0, none⟩) 2 cap] w fun en w' => w = w' ∧ en = .returned (.int .i64 (if x = 0 then y else x)) := by
  have h : Ints w (some ⟨g, 0, none⟩) [x, y] := ⟨by simp, .inr ⟨g, 0, rfl, fun i hi => by
    have : i = 0 ∨ i = 1 := by simp at hi; omega
    rcases this with rfl | rfl
    · exact h0
    · exact h1⟩, by intro z hz; simp at hz; rcases hz with rfl | rfl <;> assumption⟩
  have := or_any (some ⟨g, 0, none⟩) [x, y] cap w h
  have e : orL [x, y] = if x = 0 then y else x := by
    simp only [orL]; split
    · split
      · rename_i h; exact h.symm
      · rfl
    · rfl
  rw [e] at this
  exact this

def RankS (w0 : World) (g : Nat) (s v a t u b : Int) (w : World) : Prop := w.cell? ⟨g, 0, none⟩ = some (.int .i64 s) ∧ w.cell? ⟨g, 1, none⟩ = some (.int .i64 v) ∧ w.cell? ⟨g, 2, none⟩ = some (.int .i64 a) ∧ w.cell? ⟨g + 1, 0, none⟩ = some (.int .i64 t) ∧ w.cell? ⟨g + 1, 1, none⟩ = some (.int .i64 u) ∧ w.cell? ⟨g + 1, 2, none⟩ = some (.int .i64 b) ∧ Below w0.heap.size w0 w
theorem RankS.keep {w0 : World} {g : Nat} {s v a t u b : Int} {w w2 : World} (h : RankS w0 g s v a t u b w) (hb : Below w.heap.size w w2) : RankS w0 g s v a t u b w2 := by
  obtain ⟨a0, a1, a2, b0, b1, b2, p⟩ := h
  refine ⟨?_, ?_, ?_, ?_, ?_, ?_, p.trans (hb.mono p.size)⟩
  · rw [hb.cell (cell_lt a0)]; exact a0
  · rw [hb.cell (cell_lt a1)]; exact a1
  · rw [hb.cell (cell_lt a2)]; exact a2
  · rw [hb.cell (cell_lt b0)]; exact b0
  · rw [hb.cell (cell_lt b1)]; exact b1
  · rw [hb.cell (cell_lt b2)]; exact b2
theorem RankS.drew {w0 : World} {g : Nat} {s v a t u b : Int} {w : World} (h : RankS w0 g s v a t u b w) : RankS w0 g s v a t u b w.drew := h.keep (Below.refl _ _).drew
theorem RankS.alloc {w0 : World} {g : Nat} {s v a t u b : Int} {w : World} (h : RankS w0 g s v a t u b w) (o : Obj) : RankS w0 g s v a t u b (w.alloc o) := h.keep ((Below.refl _ _).alloc (Nat.le_refl _) o)

theorem szC_bd (v a w b : Int) : -9223372036854775808 ≤ szC v a w b ∧ szC v a w b ≤ 9223372036854775807 := by
  rcases szC_cases v a w b with h | h | h <;> rw [h] <;> omega
theorem cmpI_bd (x y : Int) : -9223372036854775808 ≤ cmpI x y ∧ cmpI x y ≤ 9223372036854775807 := by
  rcases cmpI_cases x y with h | h | h <;> rw [h.2] <;> omega

set_option maxRecDepth 100000 in
set_option maxHeartbeats 2000000 in
theorem rank_any (s v a t u b : Int) (w : World) (g1 : GoodC (s, v, a)) (g2 : GoodC (t, u, b)) :
  Calls Try.prog 56 #[.agg #[.int .i64 s, .int .i64 v, .int .i64 a], .agg #[.int .i64 t, .int .i64 u, .int .i64 b]] w (IntR w (rankL (s, v, a) (t, u, b))) := by
  have HZ := hid (fun w => size_any s v a t u b w g1 g2)
  have HR := hid (show rankL (s, v, a) (t, u, b) = if szC v a u b = 0 then cmpI t s else szC v a u b from rfl)
  have HO := hid (fun g cap w h0 h1 => or2_any g cap (szC v a u b) (cmpI t s) w h0 h1 (szC_bd _ _ _ _) (cmpI_bd _ _))
  rw [← HR.out] at HO
  clear HR
  have HC := hid (fun w => compare_any t s w)
  have S0 := hid (show RankS w w.heap.size s v a t u b ((w.alloc (.cells #[.int .i64 s, .int .i64 v, .int .i64 a] 76)).alloc (.cells #[.int .i64 t, .int .i64 u, .int .i64 b] 76)) from
    ⟨by go_simp, by go_simp, by go_simp, by go_simp, by go_simp, by go_simp, ((Below.refl w.heap.size w).alloc (Nat.le_refl _) _).alloc (by simp) _⟩)
  generalize rankL (s, v, a) (t, u, b) = r at *
  generalize szC v a u b = z at *
  generalize cmpI t s = c at *
  clear g1 g2
  go_enter Try.func56, Try.ntmps56
  go_wp2_with fail
  go_region_held3 (fun w' => w'.cell? ⟨w.heap.size, 0, none⟩ = some (.int .i64 s) ∧ w'.cell? ⟨w.heap.size, 1, none⟩ = some (.int .i64 v) ∧ w'.cell? ⟨w.heap.size, 2, none⟩ = some (.int .i64 a) ∧ w'.cell? ⟨w.heap.size + 1, 0, none⟩ = some (.int .i64 t) ∧ w'.cell? ⟨w.heap.size + 1, 1, none⟩ = some (.int .i64 u) ∧ w'.cell? ⟨w.heap.size + 1, 2, none⟩ = some (.int .i64 b) ∧ Below w.heap.size w w') (first | assumption | exact S0.out.drew | exact S0.out | exact RankS.keep (by assumption) (by assumption) | exact RankS.alloc (by assumption) _)
    (first | (go_at_call 65; refine (HZ.out _).mono ?_; rintro en w4 ⟨hb4, rfl⟩) | (go_at_call 88; refine (HC.out _).mono ?_; rintro en w5 ⟨rfl, rfl⟩) | (go_at_call 87; refine (HO.out _ _ _ (by go_simp) (by go_simp)).mono ?_; rintro en w6 ⟨rfl, rfl⟩))
  rename _ ∧ _ => hHeld
  obtain ⟨_, _, _, _, _, _, hb⟩ := hHeld
  go_wp2
  go_ret
  exact ⟨hb, rfl⟩
end Go.Proofs.Ytnjaacmcdkiilaa
