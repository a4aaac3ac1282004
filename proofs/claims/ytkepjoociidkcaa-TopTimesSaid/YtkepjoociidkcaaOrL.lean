/- What the laws of chapter 5 share: long tables, what is asked. -/
import Derived.Test.YtkepjoociidkcaaOrX
set_option linter.unusedVariables false
namespace Go.Proofs.Ytkepjoociidkcaa
open Go.RowKit

set_option maxHeartbeats 400000 in
theorem long5_any (a : Option Addr) (n cap : Nat) (w : World) (h : n ≤ 9223372036854775807) : Calls Try.prog 12 #[.slice a n cap] w (SaysR w (decide ((200 : Int) < (n : Int)))) := by
  go_enter Try.func12, Try.ntmps12
  go_wp2
  go_ret
  exact ⟨rfl, rfl⟩
/-- A box with a minute, a child and a day. -/
def AskAt (w : World) (b : Nat) (x y z : Int) : Prop := w.cell? ⟨b, 0, none⟩ = some (.int .i64 x) ∧ w.cell? ⟨b, 1, none⟩ = some (.int .i64 y) ∧ w.cell? ⟨b, 2, none⟩ = some (.int .i64 z)
theorem AskAt.below {w w' : World} {b : Nat} {x y z : Int} (h : AskAt w b x y z) (hb : Below w.heap.size w w') : AskAt w' b x y z := by
  obtain ⟨h0, h1, h2⟩ := h
  exact ⟨by rw [hb.cell (cell_lt h0)]; exact h0, by rw [hb.cell (cell_lt h1)]; exact h1, by rw [hb.cell (cell_lt h2)]; exact h2⟩
theorem askAt_new (w : World) (x y z : Int) (t : TypeId) : AskAt (w.alloc (.cells #[.int .i64 x, .int .i64 y, .int .i64 z] t)) w.heap.size x y z := by
  refine ⟨?_, ?_, ?_⟩ <;> go_simp
theorem below_new (w : World) (o : Obj) : Below w.heap.size w (w.alloc o) := (Below.refl _ _).alloc (Nat.le_refl _) _
end Go.Proofs.Ytkepjoociidkcaa
