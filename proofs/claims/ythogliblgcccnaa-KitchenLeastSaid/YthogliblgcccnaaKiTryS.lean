/- The memory of the search for the best order. -/
import Derived.Test.YthogliblgcccnaaKiD
import Derived.Test.YthogliblgcccnaaKiTryM
import Derived.Test.YthogliblgcccnaaKiCl
set_option linter.unusedVariables false
namespace Go.Proofs.Ythogliblgcccnaa
open Go.RowKit

/-- What keeps all blocks but three. -/
structure Keep3 (g b2 b3 : Nat) (w w' : World) : Prop where
  os : w'.os = w.os
  tape : w'.tape = w.tape
  output : w'.output = w.output
  size : w.heap.size ≤ w'.heap.size
  block : ∀ k, k < w.heap.size → k ≠ g → k ≠ b2 → k ≠ b3 → w'.heap[k]? = w.heap[k]?
theorem Keep3.refl (g b2 b3 : Nat) (w : World) : Keep3 g b2 b3 w w := ⟨rfl, rfl, rfl, Nat.le_refl _, fun _ _ _ _ _ => rfl⟩
theorem Keep3.trans {g b2 b3 : Nat} {w w1 w2 : World} (h : Keep3 g b2 b3 w w1) (k : Keep3 g b2 b3 w1 w2) : Keep3 g b2 b3 w w2 :=
  ⟨k.os.trans h.os, k.tape.trans h.tape, k.output.trans h.output, Nat.le_trans h.size k.size, fun i hi h1 h2 h3 => (k.block i (Nat.lt_of_lt_of_le hi h.size) h1 h2 h3).trans (h.block i hi h1 h2 h3)⟩
theorem Keep3.of {g b2 b3 : Nat} {w w' : World} (h : Below w.heap.size w w') : Keep3 g b2 b3 w w' := ⟨h.os, h.tape, h.output, h.size, fun k hk _ _ _ => h.block k hk⟩
theorem Keep3.set {g b2 b3 : Nat} {w w' : World} (h : Keep3 g b2 b3 w w') (p : Addr) (u : Value) (hp : p.block = g ∨ p.block = b2 ∨ p.block = b3) : Keep3 g b2 b3 w (w'.setCell p u) := by
  have hb := (Below.refl 0 w').setCell (p := p) (Nat.zero_le _) u
  refine ⟨hb.os.trans h.os, hb.tape.trans h.tape, hb.output.trans h.output, Nat.le_trans h.size hb.size, fun k hk h1 h2 h3 => ?_⟩
  rw [heap_setCell_other w' p k u (by rcases hp with e | e | e <;> omega)]
  exact h.block k hk h1 h2 h3
theorem Keep3.below {g b2 b3 base : Nat} {w w' : World} (h : Keep3 g b2 b3 w w') (h1 : base ≤ g) (h2 : base ≤ b2) (h3 : base ≤ b3) (h4 : base ≤ w.heap.size) : Below base w w' :=
  ⟨h.os, h.tape, h.output, h.size, fun k hk => h.block k (by omega) (by omega) (by omega) (by omega)⟩
/-- The blocks of the search: the array, and those of its variables. -/
structure Dist (base g b1 b2 b3 b4 b5 : Nat) : Prop where
  lg : base ≤ g
  l2 : base ≤ b2
  l3 : base ≤ b3
  g1 : g ≠ b1
  g2 : g ≠ b2
  g3 : g ≠ b3
  g4 : g ≠ b4
  g5 : g ≠ b5
  d12 : b1 ≠ b2
  d13 : b1 ≠ b3
  d23 : b2 ≠ b3
  d42 : b4 ≠ b2
  d43 : b4 ≠ b3
  d52 : b5 ≠ b2
  d53 : b5 ≠ b3
def tryV (b1 b2 b3 b4 b5 : Nat) : Value := .func (.func 74) #[] #[.pointer (some ⟨b1, 0, none⟩), .pointer (some ⟨b2, 0, none⟩), .pointer (some ⟨b3, 0, none⟩), .pointer (some ⟨b4, 0, none⟩), .pointer (some ⟨b5, 0, none⟩)]
def cellsI (o : List Int) : Array Value := (o.map (Value.int .i64)).toArray
structure TryS (W0 : World) (a : Option Addr) (l : List Bt) (cap g b1 b2 b3 b4 b5 cp : Nat) (w : World) (o : List Int) (m : Int) : Prop where
  below : Below W0.heap.size W0 w
  arr : w.heap[g]? = some (.cells (cellsI o) 3 (0, 0))
  cOrd : w.heap[b1]? = some (.cells #[.slice (some ⟨g, 0, none⟩) o.length cp] 23 (0, 0))
  cLst : w.heap[b2]? = some (.cells #[.int .i64 m] 3 (0, 0))
  cFnd : ∃ (F : Option Addr) (cf : Nat) (f : List Int), w.heap[b3]? = some (.cells #[.slice F f.length cf] 23 (0, 0)) ∧ Ints w F f ∧ (∀ ad, F = some ad → ad.block ≠ g ∧ ad.block ≠ b2 ∧ ad.block ≠ b3) ∧ IsOrd f l.length ∧ timeO l f = m
  cTry : w.heap[b4]? = some (.cells #[tryV b1 b2 b3 b4 b5] 86 (0, 0))
  cL : w.heap[b5]? = some (.cells #[.slice a l.length cap] 22 (0, 0))
theorem cellsI_at (o : List Int) (i : Nat) (h : i < o.length) : (cellsI o)[i]? = some (.int .i64 (oAt o i)) := by
  simp [cellsI, oAt, h]
theorem arr_cell {w : World} {g : Nat} {o : List Int} (h : w.heap[g]? = some (.cells (cellsI o) 3 (0, 0))) (i : Nat) (hi : i < o.length) : w.cell? ⟨g, i, none⟩ = some (.int .i64 (oAt o i)) := by
  unfold World.cell?
  simp [h, cellsI_at o i hi]
theorem arr_free {w : World} {g : Nat} {o : List Int} (h : w.heap[g]? = some (.cells (cellsI o) 3 (0, 0))) (i : Nat) : w.frozen? ⟨g, i, none⟩ = false := by
  unfold World.frozen?
  simp [h]
theorem cellsI_set (o : List Int) (i : Nat) (x : Int) : (cellsI o).setIfInBounds i (.int .i64 x) = cellsI (o.set i x) := by
  simp [cellsI, List.map_set]
theorem arr_ints {w : World} {g : Nat} {o : List Int} {n : Nat} (h : w.heap[g]? = some (.cells (cellsI o) 3 (0, 0))) (ho : IsOrd o n) (hn : n ≤ 7) : Ints w (some ⟨g, 0, none⟩) o := by
  have := ho.len
  refine ⟨by omega, .inr ⟨g, 0, rfl, fun i hi => by rw [Nat.zero_add]; exact arr_cell h i hi⟩, fun x hx => by have := ho.mem hx; omega⟩
/-- Two stores that exchange two elements. -/
theorem arr_swap {w : World} {g : Nat} {o : List Int} (h : w.heap[g]? = some (.cells (cellsI o) 3 (0, 0))) (i j : Nat) : ((w.setCell ⟨g, i, none⟩ (.int .i64 (oAt o j))).setCell ⟨g, j, none⟩ (.int .i64 (oAt o i))).heap[g]? = some (.cells (cellsI (swapL o i j)) 3 (0, 0)) := by
  rw [heap_setCell_same _ g j _ _ _ (heap_setCell_same w g i _ _ _ h), cellsI_set, cellsI_set]
  rfl
theorem Ints.keep3 {g b2 b3 : Nat} {w w' : World} {F : Option Addr} {f : List Int} (h : Ints w F f) (hk : Keep3 g b2 b3 w w') (hf : ∀ ad, F = some ad → ad.block ≠ g ∧ ad.block ≠ b2 ∧ ad.block ≠ b3) : Ints w' F f := by
  refine ⟨h.len, ?_, h.bd⟩
  rcases h.at_ with e | ⟨b, off, rfl, hc⟩
  · exact .inl e
  · refine .inr ⟨b, off, rfl, fun i hi => ?_⟩
    obtain ⟨h1, h2, h3⟩ := hf _ rfl
    rw [World.cell?_of_block (a := ⟨b, off + i, none⟩) (hk.block b (cell_lt (hc i hi)) h1 h2 h3)]
    exact hc i hi
section
variable {W0 : World} {a : Option Addr} {l : List Bt} {cap g b1 b2 b3 b4 b5 cp : Nat}
/-- Only new blocks. -/
theorem TryS.below2 {w w' : World} {o : List Int} {m : Int} (h : TryS W0 a l cap g b1 b2 b3 b4 b5 cp w o m) (hb : Below w.heap.size w w') : TryS W0 a l cap g b1 b2 b3 b4 b5 cp w' o m := by
  obtain ⟨F, cf, f, h1, h2, h3, h4, h5⟩ := h.cFnd
  have lt : ∀ {k : Nat} {ob : Obj}, w.heap[k]? = some ob → k < w.heap.size := fun hk => lt_of_block hk
  exact ⟨h.below.trans (hb.mono h.below.size), by rw [hb.block _ (lt h.arr)]; exact h.arr, by rw [hb.block _ (lt h.cOrd)]; exact h.cOrd, by rw [hb.block _ (lt h.cLst)]; exact h.cLst,
    ⟨F, cf, f, by rw [hb.block _ (lt h1)]; exact h1, h2.below hb, h3, h4, h5⟩, by rw [hb.block _ (lt h.cTry)]; exact h.cTry, by rw [hb.block _ (lt h.cL)]; exact h.cL⟩
/-- Two elements are exchanged. -/
theorem TryS.swap {w : World} {o : List Int} {m : Int} (hD : Dist W0.heap.size g b1 b2 b3 b4 b5) (h : TryS W0 a l cap g b1 b2 b3 b4 b5 cp w o m) (i j : Nat) : TryS W0 a l cap g b1 b2 b3 b4 b5 cp ((w.setCell ⟨g, i, none⟩ (.int .i64 (oAt o j))).setCell ⟨g, j, none⟩ (.int .i64 (oAt o i))) (swapL o i j) m := by
  obtain ⟨F, cf, f, h1, h2, h3, h4, h5⟩ := h.cFnd
  have hk : Keep3 g b2 b3 w ((w.setCell ⟨g, i, none⟩ (.int .i64 (oAt o j))).setCell ⟨g, j, none⟩ (.int .i64 (oAt o i))) := ((Keep3.refl g b2 b3 w).set _ _ (.inl rfl)).set _ _ (.inl rfl)
  have ot : ∀ k, k ≠ g → ((w.setCell ⟨g, i, none⟩ (.int .i64 (oAt o j))).setCell ⟨g, j, none⟩ (.int .i64 (oAt o i))).heap[k]? = w.heap[k]? := fun k hk => by
    rw [heap_setCell_other _ _ k _ hk, heap_setCell_other _ _ k _ hk]
  refine ⟨h.below.trans (hk.below hD.lg hD.l2 hD.l3 h.below.size), arr_swap h.arr i j, ?_, ?_, ⟨F, cf, f, ?_, h2.keep3 hk h3, h3, h4, h5⟩, ?_, ?_⟩
  · rw [ot _ (Ne.symm hD.g1), swapL_len]; exact h.cOrd
  · rw [ot _ (Ne.symm hD.g2)]; exact h.cLst
  · rw [ot _ (Ne.symm hD.g3)]; exact h1
  · rw [ot _ (Ne.symm hD.g4)]; exact h.cTry
  · rw [ot _ (Ne.symm hD.g5)]; exact h.cL
theorem swap_keep (w : World) (o : List Int) (i j : Nat) : Keep3 g b2 b3 w ((w.setCell ⟨g, i, none⟩ (.int .i64 (oAt o j))).setCell ⟨g, j, none⟩ (.int .i64 (oAt o i))) := ((Keep3.refl g b2 b3 w).set _ _ (.inl rfl)).set _ _ (.inl rfl)
theorem better_keep (w : World) (u v : Value) : Keep3 g b2 b3 w ((w.setCell ⟨b3, 0, none⟩ u).setCell ⟨b2, 0, none⟩ v) := ((Keep3.refl g b2 b3 w).set _ _ (.inr (.inr rfl))).set _ _ (.inr (.inl rfl))
/-- A better order is kept. -/
theorem TryS.better {w : World} {o f : List Int} {m m' : Int} {F : Option Addr} {cf : Nat} (hD : Dist W0.heap.size g b1 b2 b3 b4 b5) (h : TryS W0 a l cap g b1 b2 b3 b4 b5 cp w o m) (hF : Ints w F f) (hf : ∀ ad, F = some ad → ad.block ≠ g ∧ ad.block ≠ b2 ∧ ad.block ≠ b3) (ho : IsOrd f l.length) (ht : timeO l f = m') : TryS W0 a l cap g b1 b2 b3 b4 b5 cp ((w.setCell ⟨b3, 0, none⟩ (.slice F f.length cf)).setCell ⟨b2, 0, none⟩ (.int .i64 m')) o m' := by
  obtain ⟨F0, cf0, f0, h1, _⟩ := h.cFnd
  have hk : Keep3 g b2 b3 w ((w.setCell ⟨b3, 0, none⟩ (.slice F f.length cf)).setCell ⟨b2, 0, none⟩ (.int .i64 m')) := ((Keep3.refl g b2 b3 w).set _ _ (.inr (.inr rfl))).set _ _ (.inr (.inl rfl))
  have ot : ∀ k, k ≠ b2 → k ≠ b3 → ((w.setCell ⟨b3, 0, none⟩ (.slice F f.length cf)).setCell ⟨b2, 0, none⟩ (.int .i64 m')).heap[k]? = w.heap[k]? := fun k hk1 hk2 => by
    rw [heap_setCell_other _ _ k _ hk1, heap_setCell_other _ _ k _ hk2]
  refine ⟨h.below.trans (hk.below hD.lg hD.l2 hD.l3 h.below.size), ?_, ?_, ?_, ⟨F, cf, f, ?_, hF.keep3 hk hf, hf, ho, ht⟩, ?_, ?_⟩
  · rw [ot _ hD.g2 hD.g3]; exact h.arr
  · rw [ot _ hD.d12 hD.d13]; exact h.cOrd
  · have : (w.setCell ⟨b3, 0, none⟩ (.slice F f.length cf)).heap[b2]? = some (.cells #[.int .i64 m] 3 (0, 0)) := by rw [heap_setCell_other _ _ b2 _ hD.d23]; exact h.cLst
    exact one_setCell this
  · rw [heap_setCell_other _ _ b3 _ (Ne.symm hD.d23)]; exact one_setCell h1
  · rw [ot _ hD.d42 hD.d43]; exact h.cTry
  · rw [ot _ hD.d52 hD.d53]; exact h.cL
end
end Go.Proofs.Ythogliblgcccnaa
