/- A block of whole numbers of the call's own. -/
import Derived.Test.YtkboeldafppicaaBase
import Derived.Laws.Rows
set_option linter.unusedVariables false
set_option linter.unusedSimpArgs false
namespace Go.Proofs.Ytkboeldafppicaa
open Go.RowKit

def IBox (w : World) (B : Nat) (l : List Int) : Prop := w.heap[B]? = some (.cells (l.map (Value.int .i64)).toArray 3 (0, 0))
section
variable {w w' : World} {B : Nat} {l : List Int}
theorem IBox.cell (h : IBox w B l) (i : Nat) (hi : i < l.length) : w.cell? ⟨B, i, none⟩ = some (.int .i64 (l[i]?.getD 0)) := by
  unfold IBox at h
  unfold World.cell?
  simp [h, List.getElem?_eq_getElem hi]
theorem IBox.frozen (h : IBox w B l) (i : Nat) : w.frozen? ⟨B, i, none⟩ = false := by
  unfold IBox at h
  unfold World.frozen?
  simp [h]
theorem IBox.made (w : World) (n : Nat) : IBox (w.alloc (.cells (List.replicate n (Value.int .i64 0)).toArray 3)) w.heap.size (List.replicate n 0) := by
  unfold IBox World.alloc
  simp
theorem IBox.lt (h : IBox w B l) : B < w.heap.size := by
  unfold IBox at h
  exact (Array.getElem?_eq_some_iff.1 h).1
theorem IBox.below (h : IBox w B l) (hb : Below w.heap.size w w') : IBox w' B l := by
  unfold IBox at h ⊢
  rw [hb.block B (IBox.lt h)]; exact h
theorem IBox.keep (h : IBox w B l) (hb : w'.heap[B]? = w.heap[B]?) : IBox w' B l := by
  unfold IBox at h ⊢
  rw [hb]; exact h
theorem IBox.set (h : IBox w B l) (k : Nat) (x : Int) : IBox (w.setCell ⟨B, k, none⟩ (.int .i64 x)) B (l.set k x) := by
  unfold IBox at h ⊢
  rw [heap_setCell_same w B k _ _ _ h]
  simp
theorem IBox.other (h : IBox w B l) (p : Addr) (v : Value) (hp : B ≠ p.block) : IBox (w.setCell p v) B l := by
  unfold IBox at h ⊢
  rw [heap_setCell_other w p B v hp]; exact h
theorem IBox.ints (h : IBox w B l) (hl : l.length ≤ 140737488355328) (hb : ∀ x ∈ l, -9223372036854775808 ≤ x ∧ x ≤ 9223372036854775807) : Ints w (some ⟨B, 0, none⟩) l :=
  ⟨hl, .inr ⟨B, 0, rfl, fun i hi => by rw [Nat.zero_add]; exact h.cell i hi⟩, hb⟩
end
end Go.Proofs.Ytkboeldafppicaa
