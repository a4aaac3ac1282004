/- The walk of the law KitchenBefore. -/
import Derived.Test.YteolckphafblmaaKiBf
import Derived.Test.YteolckphafblmaaKiKn
import Derived.Deep.RegionHeld3
set_option linter.unusedVariables false
namespace Go.Proofs.Yteolckphafblmaa
open Go.RowKit

def BfS (w : World) (x y u v : Int) (w' : World) : Prop := w'.cell? ⟨w.heap.size, 0, none⟩ = some (.int .i64 x) ∧ w'.cell? ⟨w.heap.size, 1, none⟩ = some (.int .i64 y) ∧ w'.cell? ⟨w.heap.size + 1, 0, none⟩ = some (.int .i64 u) ∧ w'.cell? ⟨w.heap.size + 1, 1, none⟩ = some (.int .i64 v) ∧ Below w.heap.size w w'
theorem BfS.keep {w w1 w2 : World} {x y u v : Int} (h : BfS w x y u v w1) (hb : Below w1.heap.size w1 w2) : BfS w x y u v w2 := by
  obtain ⟨h0, h1, h2, h3, h4⟩ := h
  exact ⟨by rw [hb.cell (cell_lt h0)]; exact h0, by rw [hb.cell (cell_lt h1)]; exact h1, by rw [hb.cell (cell_lt h2)]; exact h2, by rw [hb.cell (cell_lt h3)]; exact h3, h4.trans (hb.mono h4.size)⟩
theorem BfS.drew {w w1 : World} {x y u v : Int} (h : BfS w x y u v w1) : BfS w x y u v w1.drew := h.keep (Below.refl _ _).drew
set_option maxRecDepth 100000 in
set_option maxHeartbeats 2000000 in
theorem kitchenBefore_walk (x y u v : Int) (w : World) (b0 : -9223372036854775808 ≤ x ∧ x ≤ 9223372036854775807) (b1 : -9223372036854775808 ≤ y ∧ y ≤ 9223372036854775807) (b2 : -9223372036854775808 ≤ u ∧ u ≤ 9223372036854775807) (b3 : -9223372036854775808 ≤ v ∧ v ≤ 9223372036854775807) :
  Calls Try.prog 7 #[.agg #[.int .i64 x, .int .i64 y], .agg #[.int .i64 u, .int .i64 v]] w (BoolR w true) := by
  have P0 := hid (((Below.refl w.heap.size w).alloc (Nat.le_refl _) (.cells #[.int .i64 x, .int .i64 y] 40)).alloc (by simp) (.cells #[.int .i64 u, .int .i64 v] 40))
  have H3 := hid (fun W => krBefore_any x y u v W)
  have H4 := hid (fun W => krBefore_any u v x y W)
  have S0 : BfS w x y u v (((w.alloc (.cells #[.int .i64 x, .int .i64 y] 40)).alloc (.cells #[.int .i64 u, .int .i64 v] 40))) := ⟨by go_simp, by go_simp, by go_simp, by go_simp, P0.out⟩
  have HS0 := hid S0
  obtain ⟨c0, c1, c2, c3, _⟩ := S0
  generalize hwB : ((w.alloc (.cells #[.int .i64 x, .int .i64 y] 40)).alloc (.cells #[.int .i64 u, .int .i64 v] 40)) = wB at *
  go_enter Try.func7, Try.ntmps7
  go_wp2_with fail
  clear hwB
  go_region_held3 (fun w' => w'.cell? ⟨w.heap.size, 0, none⟩ = some (.int .i64 x) ∧ w'.cell? ⟨w.heap.size, 1, none⟩ = some (.int .i64 y) ∧ w'.cell? ⟨w.heap.size + 1, 0, none⟩ = some (.int .i64 u) ∧ w'.cell? ⟨w.heap.size + 1, 1, none⟩ = some (.int .i64 v) ∧ Below w.heap.size w w') (first | assumption | exact HS0.out.drew | exact HS0.out | exact BfS.keep (by assumption) (by assumption))
    (first | (go_at_call 30; refine (kBefore_any _ _ _ _ _).mono ?_; rintro en w4 ⟨hb4, rfl⟩))
  rename w4.cell? _ = _ ∧ _ => hHeld
  have HB4 := hid (show BfS w x y u v w4 from hHeld)
  clear hHeld hb4 c0 c1 c2 c3
  obtain ⟨c0, c1, c2, c3, _⟩ := HB4.out
  have hor := bef_one (x, y) (u, v)
  generalize befB (x, y) (u, v) = p at *
  generalize befB (u, v) (x, y) = q at *
  cases p
  all_goals cases q
  any_goals (exfalso; rcases hor with h | h <;> cases h; done)
  all_goals
    clear hor
    go_wp2_with fail
    refine (H3.out _).mono ?_
    rintro e w5 ⟨hb5, rfl⟩
    have HB5 := hid (HB4.out.keep hb5)
    clear hb5 c0 c1 c2 c3
    obtain ⟨c0, c1, c2, c3, _⟩ := HB5.out
    go_wp2_with fail
    refine (H4.out _).mono ?_
    rintro e w6 ⟨hb6, rfl⟩
    have HB6 := hid (HB5.out.keep hb6)
    clear hb6 c0 c1 c2 c3
    obtain ⟨c0, c1, c2, c3, P6⟩ := HB6.out
    have Q6 := hid P6
    go_wp2_with fail
    refine (known7_any _).mono ?_
    rintro e w9 ⟨hb, rfl⟩
    have P9 := hid (Q6.out.trans (hb.mono Q6.out.size))
    clear hb
    go_wp2
    go_ret
    exact ⟨P9.out, rfl⟩
end Go.Proofs.Yteolckphafblmaa
