/- Slices of int of the call's own: package van. -/
import Derived.Test.YtbffdpcogfmomaaRowsI
import Derived.Laws.Rows
set_option linter.unusedVariables false
namespace Go.Proofs.Ytbffdpcogfmomaa
open Go.RowKit

/-- What Clone, Insert and Delete answer: a slice of the call's own. -/
def OwnV (w0 : World) (base : Nat) (xs : List Int) (en : Ending) (w' : World) : Prop := Below base w0 w' ∧ ∃ A c, en = .returned (.slice A xs.length c) ∧ Own w' base (.slice A xs.length c) xs
theorem own_slice {w : World} {base : Nat} {v : Value} {xs : List Int} (h : Own w base v xs) : ∃ A c, v = .slice A xs.length c := by
  rcases h.2 with ⟨hv, hn⟩ | ⟨g, c, cur, hv, _⟩
  · exact ⟨none, 0, by rw [hv, hn]⟩
  · exact ⟨_, _, hv⟩
/-- What keeps all blocks but one. -/
structure Keep1 (g : Nat) (w w' : World) : Prop where
  os : w'.os = w.os
  tape : w'.tape = w.tape
  output : w'.output = w.output
  size : w.heap.size ≤ w'.heap.size
  block : ∀ k, k < w.heap.size → k ≠ g → w'.heap[k]? = w.heap[k]?
theorem Keep1.of_grown {g : Nat} {w w' : World} (h : w.grownBy w' (some g)) : Keep1 g w w' := ⟨h.os, h.tape, h.output, h.size, fun k hk hg => h.block k hk (fun e => hg (Option.some.inj e))⟩
theorem Keep1.below {g base : Nat} {w w' : World} (h : Keep1 g w w') (h1 : base ≤ g) (h2 : base ≤ w.heap.size) : Below base w w' := ⟨h.os, h.tape, h.output, h.size, fun k hk => h.block k (by omega) (by omega)⟩
theorem own_keep1 {g g2 base n c : Nat} {w w' : World} {xs : List Int} (h : Own w base (.slice (some ⟨g2, 0, none⟩) n c) xs) (hk : Keep1 g w w') (hne : g2 ≠ g) : Own w' base (.slice (some ⟨g2, 0, none⟩) n c) xs := by
  obtain ⟨h1, h2⟩ := h
  refine ⟨h1, ?_⟩
  rcases h2 with ⟨h2, _⟩ | ⟨g', cap, cur, hv, hg', hh, r⟩
  · simp at h2
  · simp only [Value.slice.injEq, Option.some.injEq, Addr.mk.injEq, and_true] at hv
    obtain ⟨rfl, hl, rfl⟩ := hv
    exact .inr ⟨g2, c, cur, by rw [hl], hg', by rw [hk.block g2 ((Array.getElem?_eq_some_iff.1 hh).1) hne]; exact hh, r⟩
/-- A list of the call's own that is not empty has a block. -/
theorem own_some {w : World} {base : Nat} {v : Value} {xs : List Int} (h : Own w base v xs) (h0 : 0 < xs.length) : ∃ g c cur, v = .slice (some ⟨g, 0, none⟩) xs.length c ∧ base ≤ g ∧ w.heap[g]? = some (.cells cur 3 (0, 0)) ∧ xs.length ≤ c ∧ cur.size = c ∧ cur.toList.take xs.length = xs.map (Value.int .i64) := by
  obtain ⟨h1, h2⟩ := h
  rcases h2 with ⟨_, h2⟩ | ⟨g', cap, cur, hv, hg', hh, hc, _, hs, ht⟩
  · omega
  · exact ⟨g', cap, cur, hv, hg', hh, hc, by omega, by rw [Nat.mul_one] at ht; exact ht⟩
/-- Two lists of the call's own with other heads lie in other blocks. -/
theorem own_apart {w : World} {b1 b2 g1 g2 n1 n2 c1 c2 : Nat} {x y : Int} {xs ys : List Int} (h : Own w b1 (.slice (some ⟨g1, 0, none⟩) n1 c1) (x :: xs)) (k : Own w b2 (.slice (some ⟨g2, 0, none⟩) n2 c2) (y :: ys)) (hne : x ≠ y) : g1 ≠ g2 := by
  rintro rfl
  obtain ⟨g, c, cur, hv, _, hh, _, _, ht⟩ := own_some h (by simp)
  obtain ⟨g', c', cur', hv', _, hh', _, _, ht'⟩ := own_some k (by simp)
  simp only [Value.slice.injEq, Option.some.injEq, Addr.mk.injEq, and_true] at hv hv'
  obtain ⟨rfl, _, _⟩ := hv
  obtain ⟨e, _, _⟩ := hv'
  rw [← e, hh] at hh'
  simp only [Option.some.injEq, Obj.cells.injEq, and_true] at hh'
  obtain rfl := hh'
  cases hcl : cur.toList with
  | nil => rw [hcl] at ht; simp at ht
  | cons z zs =>
    rw [hcl] at ht ht'
    simp at ht ht'
    rw [ht.1] at ht'
    simp at ht'
    exact hne ht'.1
/-- An array of int, cell by cell. -/
def cellsV (o : List Int) : Array Value := (o.map (Value.int .i64)).toArray
theorem cellsV_at (o : List Int) (i : Nat) (h : i < o.length) : (cellsV o)[i]? = some (.int .i64 (o[i]?.getD 0)) := by
  simp [cellsV, h]
theorem arrV_cell {w : World} {g : Nat} {o : List Int} (h : w.heap[g]? = some (.cells (cellsV o) 3 (0, 0))) (i : Nat) (hi : i < o.length) : w.cell? ⟨g, i, none⟩ = some (.int .i64 (o[i]?.getD 0)) := by
  unfold World.cell?
  simp [h, cellsV_at o i hi]
theorem arrV_free {w : World} {g : Nat} {o : List Int} (h : w.heap[g]? = some (.cells (cellsV o) 3 (0, 0))) (i : Nat) : w.frozen? ⟨g, i, none⟩ = false := by
  unfold World.frozen?
  simp [h]
theorem cellsV_set (o : List Int) (i : Nat) (x : Int) : (cellsV o).setIfInBounds i (.int .i64 x) = cellsV (o.set i x) := by
  simp [cellsV, List.map_set]
theorem arrV_store {w : World} {g : Nat} {o : List Int} (h : w.heap[g]? = some (.cells (cellsV o) 3 (0, 0))) (i : Nat) (x : Int) : (w.setCell ⟨g, i, none⟩ (.int .i64 x)).heap[g]? = some (.cells (cellsV (o.set i x)) 3 (0, 0)) := by
  rw [heap_setCell_same w g i _ _ _ h, cellsV_set]
theorem arrV_ints {w : World} {g : Nat} {o : List Int} (h : w.heap[g]? = some (.cells (cellsV o) 3 (0, 0))) (hl : o.length ≤ 1000) (hb : ∀ x ∈ o, -9223372036854775808 ≤ x ∧ x ≤ 9223372036854775807) : Ints w (some ⟨g, 0, none⟩) o :=
  ⟨by omega, .inr ⟨g, 0, rfl, fun i hi => by rw [Nat.zero_add]; exact arrV_cell h i hi⟩, hb⟩
theorem arrV_own {w : World} {g : Nat} {o : List Int} (h : w.heap[g]? = some (.cells (cellsV o) 3 (0, 0))) (hl : o.length ≤ 1000) (base : Nat) (hb : base ≤ g) : Own w base (.slice (some ⟨g, 0, none⟩) o.length o.length) o :=
  ⟨by simp, .inr ⟨g, o.length, cellsV o, rfl, hb, h, Nat.le_refl _, by unfold maxLen; omega, by simp [cellsV], by simp [cellsV, List.take_of_length_le]⟩⟩
theorem lt_block {w : World} {k : Nat} {ob : Obj} (h : w.heap[k]? = some ob) : k < w.heap.size := (Array.getElem?_eq_some_iff.1 h).1
theorem make_ints (n : Nat) (hn : n ≤ 1000000) : ∀ w : World, (Instr.makeSlice 23 (.int .i64 (n : Int)) (.int .i64 (n : Int))).run Try.prog w = .ok (.slice (some ⟨w.heap.size, 0, none⟩) n n) (w.alloc (.cells (List.replicate n (Value.int .i64 0)).toArray 3)) := by
  obtain ⟨i0, hi, hz0, hz1, hz2⟩ := info_parts int_info
  intro w
  have hr := run_make (P := Try.prog) w 23 3 i0 (.int .i64 0) Try.underlying23 hi hz0 .i64 .i64 n n (by omega) (by omega) (by rw [hz2]; omega) (by omega)
  simp only [Int.toNat_natCast, hz1, Nat.mul_one] at hr
  have e : madeCells (Value.int .i64 0).cells n = (List.replicate n (Value.int .i64 0)).toArray := Array.ext' (toList_madeCells_one _ _)
  rw [e] at hr
  exact hr
theorem zerosV (n : Nat) : (List.replicate n (Value.int .i64 0)).toArray = cellsV (List.replicate n 0) := by simp [cellsV]
/-- A list of the call's own as a list that reads. -/
theorem own_intsV {w : World} {base : Nat} {v : Value} {xs : List Int} (h : Own w base v xs) (hl : xs.length ≤ 1000) (hb : ∀ x ∈ xs, -9223372036854775808 ≤ x ∧ x ≤ 9223372036854775807) : ∃ A c, v = .slice A xs.length c ∧ Ints w A xs := by
  obtain ⟨A, c, rfl, hi⟩ := h.ints (by omega) hb
  exact ⟨A, c, rfl, hi⟩
theorem own_intsG {w : World} {base g c : Nat} {xs : List Int} (h : Own w base (.slice (some ⟨g, 0, none⟩) xs.length c) xs) (hl : xs.length ≤ 1000) (hb : ∀ x ∈ xs, -9223372036854775808 ≤ x ∧ x ≤ 9223372036854775807) : Ints w (some ⟨g, 0, none⟩) xs := by
  obtain ⟨a, cap, hv, hi⟩ := h.ints (by omega) hb
  cases hv
  exact hi
theorem setCell_keep1 {g : Nat} {w0 w : World} (h : Keep1 g w0 w) (o : Nat) (v : Value) : Keep1 g w0 (w.setCell ⟨g, o, none⟩ v) := by
  have hb := (Below.refl 0 w).setCell (p := ⟨g, o, none⟩) (Nat.zero_le _) v
  refine ⟨hb.os.trans h.os, hb.tape.trans h.tape, hb.output.trans h.output, Nat.le_trans h.size hb.size, fun k hk hg => ?_⟩
  rw [heap_setCell_other w ⟨g, o, none⟩ k v (by show k ≠ g; exact hg)]
  exact h.block k hk hg
end Go.Proofs.Ytbffdpcogfmomaa
