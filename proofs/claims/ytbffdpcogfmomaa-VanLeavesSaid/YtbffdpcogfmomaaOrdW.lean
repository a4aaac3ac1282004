/- The document's Orders: chapter 7. -/
import Derived.Test.YtbffdpcogfmomaaOrdersM
import Derived.Test.YtbffdpcogfmomaaRowsI
import Derived.Test.YtbffdpcogfmomaaAppend
import Derived.Test.YtbffdpcogfmomaaStepApp
import Derived.Laws.Rows
import Derived.Deep.RegionHeld3
/- Tables of rows in blocks of their own; cuts of a row; append of any row as a step: for the document's Orders. -/
set_option linter.unusedVariables false
namespace Go.Proofs.Ytbffdpcogfmomaa
open Go.RowKit

theorem zlt_block {w : World} {k : Nat} {ob : Obj} (h : w.heap[k]? = some ob) : k < w.heap.size := (Array.getElem?_eq_some_iff.1 h).1
theorem zblk_keep {w w' : World} {g : Nat} {ob : Obj} (h : w.heap[g]? = some ob) (hb : Below w.heap.size w w') : w'.heap[g]? = some ob := (hb.block g (zlt_block h)).trans h
theorem zints_info : (Try.prog.info? 23).map (fun i => (i.zero, i.size, i.bytes)) = some (some (.slice none 0 0), 1, 24) := by kernel_rfl
/-- A place that holds the elements of a list of int; no place is wanted of an empty list. -/
def SrcZ (w : World) (A : Option Addr) (xs : List Int) : Prop := xs.length = 0 ∨ ∃ ad, A = some ad ∧ ∀ (j : Nat) (u : Value), (xs.map (Value.int .i64))[j]? = some u → w.cell? (ad.add j) = some u
theorem SrcZ.below {w w' : World} {A : Option Addr} {xs : List Int} (h : SrcZ w A xs) (hb : Below w.heap.size w w') : SrcZ w' A xs := by
  rcases h with h | ⟨ad, e, hc⟩
  · exact .inl h
  · refine .inr ⟨ad, e, fun j u hu => ?_⟩
    have h1 := hc j u hu
    exact (hb.cell (cell_lt h1)).trans h1
theorem zadd_none (b off i : Nat) : (⟨b, off, none⟩ : Addr).add i = ⟨b, off + i, none⟩ := by
  unfold Addr.add; split
  · simp_all
  · rfl
theorem zone (xs : List Int) : ∀ u ∈ xs.map (Value.int .i64), u.oneCell' = true := by
  intro u hu
  obtain ⟨x, _, rfl⟩ := List.mem_map.1 hu
  rfl
/-- What is known of a row of int of the call's own: its place. -/
theorem own_place {w : World} {base n c : Nat} {A : Option Addr} {xs : List Int} (h : Own w base (.slice A n c) xs) : n = xs.length ∧ xs.length ≤ c ∧ ((A = none ∧ xs = []) ∨ ∃ g, A = some ⟨g, 0, none⟩ ∧ base ≤ g ∧ g < w.heap.size ∧ ∀ (j : Nat) (u : Value), (xs.map (Value.int .i64))[j]? = some u → w.cell? ⟨g, j, none⟩ = some u) := by
  obtain ⟨h1, h2⟩ := h
  rcases h2 with ⟨hv, hn⟩ | ⟨g, cap, cur, hv, hg, hh, hc, _, hs, ht⟩
  · simp only [Value.slice.injEq] at hv
    obtain ⟨rfl, rfl, rfl⟩ := hv
    exact ⟨hn.symm, by omega, .inl ⟨rfl, List.eq_nil_of_length_eq_zero hn⟩⟩
  · simp only [Value.slice.injEq] at hv
    obtain ⟨rfl, rfl, rfl⟩ := hv
    refine ⟨rfl, hc, .inr ⟨g, rfl, hg, zlt_block hh, fun j u hu => ?_⟩⟩
    have hj : j < xs.length := by
      have := (List.getElem?_eq_some_iff.1 hu).1
      simpa using this
    rw [cell_of_row w g j cur _ _ hh]
    have h3 : (cur.toList.take (xs.length * 1))[j]? = some u := by rw [ht]; exact hu
    rw [List.getElem?_take_of_lt (by omega)] at h3
    simpa using h3
theorem src_take {w : World} {g : Nat} {xs : List Int} (h : ∀ (j : Nat) (u : Value), (xs.map (Value.int .i64))[j]? = some u → w.cell? ⟨g, j, none⟩ = some u) (a : Nat) : SrcZ w (some ⟨g, 0, none⟩) (xs.take a) := by
  refine .inr ⟨_, rfl, fun j u hu => ?_⟩
  rw [zadd_none, Nat.zero_add]
  refine h j u ?_
  rw [List.getElem?_map] at hu ⊢
  have hj : j < a := by
    rcases Nat.lt_or_ge j a with h | h
    · exact h
    · rw [List.getElem?_eq_none (by rw [List.length_take]; omega)] at hu; simp at hu
  rwa [List.getElem?_take_of_lt hj] at hu
theorem src_drop {w : World} {g : Nat} {xs : List Int} (h : ∀ (j : Nat) (u : Value), (xs.map (Value.int .i64))[j]? = some u → w.cell? ⟨g, j, none⟩ = some u) (a : Nat) : SrcZ w (some ⟨g, a, none⟩) (xs.drop a) := by
  refine .inr ⟨_, rfl, fun j u hu => ?_⟩
  rw [zadd_none]
  refine h (a + j) u ?_
  rw [List.getElem?_map] at hu ⊢
  rwa [List.getElem?_drop] at hu
set_option maxRecDepth 100000 in
theorem run_to (A : Option Addr) (n c a : Nat) (ha : a ≤ n) (hn : n ≤ c) : ∃ A1 c1, (A1 = A ∨ ∃ g, A = some g ∧ A1 = some (g.add 0)) ∧ ∀ W : World, (Instr.sliceAt 23 (.slice A n c) none (some (.int .i64 (a : Int))) none).run Try.prog W = .ok (.slice A1 a c1) W := by
  obtain ⟨i0, hinf, hz0, hz1, hz2⟩ := info_parts int_info
  refine ⟨if c = 0 then A else A.map (·.add (0 * i0.size)), c - 0, ?_, fun W => ?_⟩
  · by_cases h : c = 0
    · rw [if_pos h]; exact .inl rfl
    · rw [if_neg h]
      cases A with
      | none => exact .inl rfl
      | some g => exact .inr ⟨g, rfl, by simp⟩
  · have hb := run_sliceBound (P := Try.prog) (w := W) .i64 (a : Int) c .sliceAcap (by omega) (by omega)
    simp [Instr.sliceAt, Instr.slice, Instr.sliceBounds, run_underlying Try.underlying23, hb, sizeOf, typeInfo, hinf, go_sem]
set_option maxRecDepth 100000 in
theorem run_from (A : Option Addr) (n c a : Nat) (ha : a ≤ n) (hn : n ≤ c) : ∃ A1 c1, (a = n ∨ A1 = A.map (·.add a)) ∧ ∀ W : World, (Instr.sliceAt 23 (.slice A n c) (some (.int .i64 (a : Int))) none none).run Try.prog W = .ok (.slice A1 (n - a) c1) W := by
  obtain ⟨i0, hinf, hz0, hz1, hz2⟩ := info_parts int_info
  refine ⟨if c = a then A else A.map (·.add (a * i0.size)), c - a, ?_, fun W => ?_⟩
  · by_cases h : c = a
    · exact .inl (by omega)
    · rw [if_neg h, hz1, Nat.mul_one]
      exact .inr rfl
  · have hb := run_sliceBound (P := Try.prog) (w := W) .i64 (a : Int) n .sliceB (by omega) (by omega)
    simp [Instr.sliceAt, Instr.slice, Instr.sliceBounds, run_underlying Try.underlying23, hb, sizeOf, typeInfo, hinf, go_sem]
/-- A row cut in two: what both cuts answer, and where their elements lie. -/
theorem cut_row {w : World} {base n c : Nat} {A : Option Addr} {xs : List Int} (h : Own w base (.slice A n c) xs) (a : Nat) (ha : a ≤ n) :
    ∃ A1 c1 A2 c2, (∀ W : World, (Instr.sliceAt 23 (.slice A n c) none (some (.int .i64 (a : Int))) none).run Try.prog W = .ok (.slice A1 a c1) W) ∧ (∀ W : World, (Instr.sliceAt 23 (.slice A n c) (some (.int .i64 (a : Int))) none none).run Try.prog W = .ok (.slice A2 (n - a) c2) W) ∧ SrcZ w A1 (xs.take a) ∧ SrcZ w A2 (xs.drop a) := by
  obtain ⟨hn, hc, hp⟩ := own_place h
  obtain ⟨A1, c1, h1, r1⟩ := run_to A n c a ha (by omega)
  obtain ⟨A2, c2, h2, r2⟩ := run_from A n c a ha (by omega)
  refine ⟨A1, c1, A2, c2, r1, r2, ?_, ?_⟩
  · rcases hp with ⟨_, rfl⟩ | ⟨g, rfl, _, _, hg⟩
    · exact .inl (by simp)
    · rcases h1 with rfl | ⟨g', e, rfl⟩
      · exact src_take hg a
      · cases e
        rw [zadd_none]
        exact src_take hg a
  · rcases hp with ⟨_, rfl⟩ | ⟨g, rfl, _, _, hg⟩
    · exact .inl (by simp)
    · rcases h2 with rfl | rfl
      · exact .inl (by simp; omega)
      · simp only [Option.map_some, zadd_none, Nat.zero_add]
        exact src_drop hg a
/-- append of a list that lies anywhere to a row of the call's own, as a step of a region that draws. -/
theorem step_append_srcZ {P : Program} {ops : Array Oper} {o : Oper} {a : Act} {w : World} {K : Act → World → Prop} {Q : Exit → Act → World → Prop} {E : Prop}
    (hg : o.guard = none) (s x : Operand) (t : TypeId) (hop : o.op = Op.call { callee := Callee.builtin Builtin.append, args := #[s, x], argTypes := #[t, t] })
    (base : Nat) (i : TypeInfo) (h1 : P.underlying t = some (.slice 3)) (h2 : P.info? 3 = some i) (h3 : i.zero = some (.int .i64 0)) (h4 : i.size = 1) (h5 : i.bytes = 8)
    (v : Value) (xs : List Int) (hs : a.eval s = v) (hown : Own w base v xs)
    (A : Option Addr) (m c : Nat) (news : List Int) (hx : a.eval x = .slice A m c) (hn : news.length = m) (hc : SrcZ w A news)
    (b1 : xs.length + m ≤ 1000000) (hbase : base ≤ w.heap.size)
    (hK : ∀ v' w', Own w' base v' (xs ++ news) → w.grownBy w' v.ownBlock → K (a.put o.dst v') w') :
    if Region.wanted o (yielded ops a.tmps) = true then Oper.wp P o a w K Q else E := by
  have hw : Region.wanted o (yielded ops a.tmps) = true := by simp [Region.wanted, hg]
  have hK' : ∀ v' w', w'.ownsRow base 3 1 v' (xs.length + m) (xs.map (Value.int .i64) ++ news.map (Value.int .i64)) → w.grownBy w' v.ownBlock → K (a.put o.dst v') w' := fun v' w' r1 r2 => hK v' w' (by
    unfold Own
    rw [List.map_append, List.length_append, hn]; exact r1) r2
  cases A with
  | some ad =>
    have hcell : ∀ (j : Nat) (u : Value), (news.map (Value.int .i64))[j]? = some u → w.cell? (ad.add j) = some u := by
      rcases hc with h0 | ⟨ad', e', hc⟩
      · intro j u hu
        have : news = [] := List.eq_nil_of_length_eq_zero h0
        subst this
        simp at hu
      · cases e'; exact hc
    rw [if_pos hw]
    obtain ⟨v', w', hrun, r1, r2, _⟩ := run_append_own (P := P) w base t o.type 3 i (.int .i64 0) 1 8 h1 h2 h3 h4 h5 rfl (by decide) v xs.length (xs.map (Value.int .i64)) hown ad m c (news.map (Value.int .i64)) (by rw [List.length_map, Nat.mul_one]; exact hn) hcell (zone news) (by unfold maxLen; omega) (by omega) hbase
    unfold Oper.wp
    simp [execOp, hop, resolve, invoke, builtin, hs, hx, hrun, Result.andThen]
    exact hK' v' w' r1 r2
  | none =>
    have hm : news = [] := by
      rcases hc with h0 | ⟨ad', e', _⟩
      · exact List.eq_nil_of_length_eq_zero h0
      · cases e'
    subst hm
    obtain rfl : m = 0 := by simpa using hn.symm
    have hrun : (Builtin.append_ #[t, t] o.type #[v, .slice none 0 c]).run P w = .ok v w := by
      have h0 := hown.2
      rcases h0 with ⟨rfl, _⟩ | ⟨g, cap, cur, rfl, _, _, hnc, _⟩
      · simp [Builtin.append_, Builtin.firstCells, Builtin.lenOf, run_underlying h1, typeInfo, h2, sizeOf]
      · simp [Builtin.append_, Builtin.firstCells, Builtin.lenOf, run_underlying h1, typeInfo, h2, sizeOf, storeCells, hnc]
    rw [if_pos hw]
    unfold Oper.wp
    simp [execOp, hop, resolve, invoke, builtin, hs, hx, hrun, Result.andThen]
    exact hK' v w (by unfold Own at hown; simpa using hown) (World.grownBy.refl _ _)
/-- A table of the call's own, its rows in blocks of their own. -/
structure OrdT (w : World) (base : Nat) (v : Value) (T : List (List Int)) : Prop where
  out : ∃ (A : Nat → Option Addr) (C : Nat → Nat) (vals : List Value), w.ownsRow base 23 1 v T.length vals ∧ (∀ i, i < T.length → vals[i]? = some (.slice (A i) (rZ T i).length (C i))) ∧ (∀ i, i < T.length → Own w base (.slice (A i) (rZ T i).length (C i)) (rZ T i)) ∧ ∀ i j, i < j → j < T.length → A i ≠ A j
theorem OrdT.nil (w : World) (base : Nat) : OrdT w base (.slice none 0 0) [] := ⟨fun _ => none, fun _ => 0, [], ⟨rfl, .inl ⟨rfl, rfl⟩⟩, fun i hi => by simp at hi, fun i hi => by simp at hi, fun i j h hj => by simp at hj⟩
theorem OrdT.below {w w' : World} {base : Nat} {v : Value} {T : List (List Int)} (h : OrdT w base v T) (hb : Below w.heap.size w w') : OrdT w' base v T := by
  obtain ⟨A, C, vals, h1, h2, h3, h4⟩ := h.out
  exact ⟨A, C, vals, own_below h1 hb, h2, fun i hi => (h3 i hi).below hb, h4⟩
theorem OrdT.weak {w : World} {base base' : Nat} {v : Value} {T : List (List Int)} (h : OrdT w base v T) (hb : base' ≤ base) : OrdT w base' v T := by
  obtain ⟨A, C, vals, h1, h2, h3, h4⟩ := h.out
  exact ⟨A, C, vals, own_weak h1 hb, h2, fun i hi => own_weak (h3 i hi) hb, h4⟩
theorem OrdT.val {w : World} {base : Nat} {v : Value} {T : List (List Int)} (h : OrdT w base v T) : ∃ A c, v = .slice A T.length c := by
  obtain ⟨A, C, vals, h1, _⟩ := h.out
  rcases h1.2 with ⟨hv, hn⟩ | ⟨g, c, cur, hv, _⟩
  · exact ⟨none, 0, by rw [hv, hn]⟩
  · exact ⟨_, _, hv⟩
theorem own_grown_tab {w w' : World} {base b2 : Nat} {v u : Value} {n : Nat} {vals : List Value} {xs : List Int} (ho : w.ownsRow base 23 1 v n vals) (hx : Own w b2 u xs) (hg : w.grownBy w' v.ownBlock) : Own w' b2 u xs := by
  obtain ⟨h1, h2⟩ := hx
  refine ⟨h1, ?_⟩
  rcases h2 with h2 | ⟨g, cap, cur, hv, hg2, hh, r⟩
  · exact .inl h2
  · refine .inr ⟨g, cap, cur, hv, hg2, ?_, r⟩
    rw [hg.block g ((Array.getElem?_eq_some_iff.1 hh).1) ?_]
    · exact hh
    · intro e
      rcases ho.2 with ⟨hv', _⟩ | ⟨g', cap', cur', hv', _, hh', _⟩
      · rw [hv'] at e; simp [Value.ownBlock] at e
      · rw [hv'] at e
        simp only [Value.ownBlock, Option.some.injEq] at e
        subst e
        rw [hh] at hh'
        simp at hh'
/-- The row i of such a table in memory. -/
theorem OrdT.row {w : World} {base : Nat} {v : Value} {T : List (List Int)} (h : OrdT w base v T) (i : Nat) (hi : i < T.length) : ∃ g c A d, v = .slice (some ⟨g, 0, none⟩) T.length c ∧ w.cell? ⟨g, i, none⟩ = some (.slice A (rZ T i).length d) ∧ Own w base (.slice A (rZ T i).length d) (rZ T i) := by
  obtain ⟨A, C, vals, h1, h2, h3, _⟩ := h.out
  rcases h1.2 with ⟨_, hn⟩ | ⟨g, cap, cur, hv, hg, hh, hc, hm, hs, ht⟩
  · omega
  · refine ⟨g, cap, A i, C i, hv, ?_, h3 i hi⟩
    rw [cell_of_row w g i cur _ _ hh]
    have e1 : (cur.toList.take (T.length * 1))[i]? = vals[i]? := by rw [ht]
    rw [List.getElem?_take_of_lt (by omega), h2 i hi] at e1
    simpa using e1
theorem OrdT.push {w w8 w9 : World} {base g c : Nat} {v v' : Value} {T : List (List Int)} {r : List Int} {A : Nat → Option Addr} {C : Nat → Nat} {vals : List Value}
    (h1 : w.ownsRow base 23 1 v T.length vals) (h2 : ∀ i, i < T.length → vals[i]? = some (.slice (A i) (rZ T i).length (C i))) (h3 : ∀ i, i < T.length → Own w base (.slice (A i) (rZ T i).length (C i)) (rZ T i)) (h4 : ∀ i j, i < j → j < T.length → A i ≠ A j)
    (hb : Below w.heap.size w w8) (hr : Own w8 w.heap.size (.slice (some ⟨g, 0, none⟩) r.length c) r) (hg : w.heap.size ≤ g) (hbs : base ≤ w.heap.size)
    (ho : w9.ownsRow base 23 1 v' (T.length + 1) (vals ++ [.slice (some ⟨g, 0, none⟩) r.length c])) (hgr : w8.grownBy w9 v.ownBlock) : OrdT w9 base v' (T ++ [r]) := by
  have hvl : vals.length = T.length := by have := h1.1; omega
  have hr8 := own_below h1 hb
  refine ⟨fun i => if i = T.length then some ⟨g, 0, none⟩ else A i, fun i => if i = T.length then c else C i, vals ++ [.slice (some ⟨g, 0, none⟩) r.length c], by rw [List.length_append]; exact ho, fun i hi => ?_, fun i hi => ?_, fun i j hij hj => ?_⟩
  · dsimp only
    rw [rZ_app]
    by_cases h : i < T.length
    · have e : ¬ i = T.length := by omega
      simp only [e, h, if_true, if_false]
      rw [List.getElem?_append_left (by omega)]; exact h2 i h
    · have e : i = T.length := by simp at hi; omega
      subst e
      simp only [h, if_true, if_false]
      rw [List.getElem?_append_right (by omega), hvl]; simp
  · dsimp only
    rw [rZ_app]
    by_cases h : i < T.length
    · have e : ¬ i = T.length := by omega
      simp only [e, h, if_true, if_false]
      exact own_grown_tab hr8 ((h3 i h).below hb) hgr
    · have e : i = T.length := by simp at hi; omega
      subst e
      simp only [h, if_true, if_false]
      exact own_grown_tab hr8 (own_weak hr hbs) hgr
  · have hj' : j < T.length ∨ j = T.length := by simp at hj; omega
    rcases hj' with h | h
    · simp only [if_neg (show ¬ i = T.length by omega), if_neg (show ¬ j = T.length by omega)]
      exact h4 i j hij h
    · simp only [if_neg (show ¬ i = T.length by omega), if_pos h]
      intro e
      obtain ⟨_, _, hp⟩ := own_place (h3 i (by omega))
      rcases hp with ⟨e2, _⟩ | ⟨g', e2, _, hlt, _⟩
      · rw [e2] at e; cases e
      · rw [e2] at e
        simp only [Option.some.injEq, Addr.mk.injEq, and_true] at e
        omega
end Go.Proofs.Ytbffdpcogfmomaa
set_option linter.unusedVariables false
namespace Go.Proofs.Ytbffdpcogfmomaa
open Go.RowKit

/-- What Orders answers. -/
def OrdQ (n : Nat) (w : World) (en : Ending) (w' : World) : Prop := Below w.heap.size w w' ∧ ∃ A c, en = .returned (.slice A (ordz n).length c) ∧ OrdT w' w.heap.size (.slice A (ordz n).length c) (ordz n)
theorem zblk_new (X : World) (o : Obj) (B : Nat) (h : X.heap.size = B) : (X.alloc o).heap[B]? = some o := by rw [← h]; exact heap_alloc_new X o
theorem zblk_alloc {X : World} {B : Nat} {u : Obj} (o : Obj) (h : X.heap[B]? = some u) : (X.alloc o).heap[B]? = some u := zblk_keep h ((Below.refl _ _).alloc (Nat.le_refl _) o)
theorem zblk_drew {X : World} {B : Nat} {u : Obj} (h : X.heap[B]? = some u) : X.drew.heap[B]? = some u := h
theorem zblk_grown {X W : World} {r : Option Nat} {B : Nat} {u : Obj} (hg : X.grownBy W r) (hn : some B ≠ r) (h : X.heap[B]? = some u) : W.heap[B]? = some u := (hg.block B (zlt_block h) hn).trans h
theorem zown_empty {X : World} {B base : Nat} (h : X.heap[B]? = some (.cells #[] 3 (0, 0))) (hb : base ≤ B) : Own X base (.slice (some ⟨B, 0, none⟩) 0 0) [] :=
  ⟨rfl, .inr ⟨B, 0, #[], rfl, hb, h, Nat.le_refl _, by decide, rfl, rfl⟩⟩
theorem zsrc_one {X : World} {B : Nat} {x : Int} (h : X.heap[B]? = some (.cells #[.int .i64 x] 3 (0, 0))) : SrcZ X (some ⟨B, 0, none⟩) [x] := by
  refine .inr ⟨_, rfl, fun j u hu => ?_⟩
  rw [zadd_none, Nat.zero_add]
  match j, hu with
  | 0, hu => simp at hu; subst hu; simp [World.cell?, h]
  | j + 1, hu => simp at hu
theorem zown_ne {X : World} {B base : Nat} {v : Value} {xs : List Int} {u : Value} {ty : TypeId} (h : X.heap[B]? = some (.cells #[u] ty (0, 0))) (ho : Own X base v xs) (hB : ∀ q, v.ownBlock = some q → q ≠ B) : some B ≠ v.ownBlock := fun e => hB B e.symm rfl
theorem zown_alloc {X : World} {base : Nat} {v : Value} {xs : List Int} (h : Own X base v xs) (o : Obj) : Own (X.alloc o) base v xs := Own.below h ((Below.refl _ _).alloc (Nat.le_refl _) o)
theorem zown_drew {X : World} {base : Nat} {v : Value} {xs : List Int} (h : Own X base v xs) : Own X.drew base v xs := Own.below h (Below.drew (Below.refl _ _))
theorem zown_cell {X : World} {base : Nat} {v : Value} {xs : List Int} (h : Own X base v xs) : v.oneCell' = true := by
  rcases h.2 with ⟨rfl, _⟩ | ⟨g, c, cur, rfl, _⟩ <;> rfl
theorem zown_some {X : World} {base m : Nat} {v : Value} {xs : List Int} (h : Own X base v xs) (hl : xs.length = m) (hm : 0 < m) : ∃ g c, v = .slice (some ⟨g, 0, none⟩) m c ∧ base ≤ g := by
  subst hl
  rcases h.2 with ⟨_, h2⟩ | ⟨g, c, cur, hv, hg, _⟩
  · omega
  · exact ⟨g, c, hv, hg⟩
theorem zown_ge {X : World} {base : Nat} {v : Value} {xs : List Int} (h : Own X base v xs) : ∀ q, v.ownBlock = some q → base ≤ q := fun q hq => (World.ownsRow.lt h q hq).1
theorem zemp_ge {B base : Nat} (hb : base ≤ B) : ∀ q, (Value.slice (some ⟨B, 0, none⟩) 0 0).ownBlock = some q → base ≤ q := by
  intro q hq; simp [Value.ownBlock] at hq; omega
theorem zemp_ne {B B' : Nat} (hb : B ≠ B') : some B ≠ (Value.slice (some ⟨B', 0, none⟩) 0 0).ownBlock := by
  simp [Value.ownBlock]; omega
theorem zcell_new {X : World} {B : Nat} {v : Value} {ty : TypeId} (h : X.heap[B]? = some (.cells #[v] ty (0, 0))) : ∀ j u, [v][j]? = some u → X.cell? ((⟨B, 0, none⟩ : Addr).add j) = some u := by
  intro j u hu
  rw [zadd_none, Nat.zero_add]
  match j, hu with
  | 0, hu => simp at hu; subst hu; simp [World.cell?, h]
  | j + 1, hu => simp at hu
theorem ordT_one (w : World) : OrdT (w.alloc (.cells #[.slice none 0 0] 23)) w.heap.size (.slice (some ⟨w.heap.size, 0, none⟩) 1 1) [[]] := by
  refine ⟨fun _ => none, fun _ => 0, [.slice none 0 0], ⟨rfl, .inr ⟨w.heap.size, 1, #[.slice none 0 0], rfl, Nat.le_refl _, heap_alloc_new w _, Nat.le_refl _, by decide, rfl, rfl⟩⟩, fun i hi => ?_, fun i hi => ?_, fun i j hij hj => by simp at hj; omega⟩
  · have : i = 0 := by simp at hi; omega
    subst this; rfl
  · have : i = 0 := by simp at hi; omega
    subst this
    exact ⟨rfl, .inl ⟨rfl, rfl⟩⟩
set_option maxRecDepth 100000 in
set_option maxHeartbeats 8000000 in
theorem rOrders_any (n : Nat) (w : World) (hn : n ≤ 7) : Calls Try.prog 92 #[.int .i64 (n : Int)] w (OrdQ n w) := by
  obtain ⟨i0, hinf, hz0, hz1, hz2⟩ := info_parts int_info
  obtain ⟨i2, hinf2, hy0, hy1, hy2⟩ := info_parts zints_info
  have HO0 := hid (ordT_one w)
  have HB0 := hid ((Below.refl w.heap.size w).alloc (Nat.le_refl _) (.cells #[.slice none 0 0] 23))
  go_enter Try.func92, Try.ntmps92
  go_wp2_with fail
  go_loopw [3, 4] (fun v s wr => ∃ (k : Nat), k ≤ n ∧ s = .int .i64 (k : Int) ∧ Hid (OrdT wr w.heap.size v (ordz k)) ∧ Hid (Below w.heap.size w wr)) (fun _ s _ => n - (intOf s).toNat)
  case atStart => exact ⟨0, Nat.zero_le _, rfl, HO0, HB0⟩
  case round =>
    obtain ⟨k, hk, rfl, HO, HB⟩ := hrel
    generalize wr = w1 at *
    clear HO0 HB0
    obtain ⟨Ao, co, rfl⟩ := HO.out.val
    have hrl := ordz_len k
    have hcard := ordz_card k
    have hfz := fz_le k (by omega)
    have hfp := fz_pos k
    have hfz2 : fz k * (k + 1) = fz (k + 1) := rfl
    have hfz3 : k < n → fz (k + 1) ≤ 5040 := fun h => fz_le (k + 1) (by omega)
    obtain ⟨os, hos⟩ : ∃ os, ordz k = os := ⟨_, rfl⟩
    have HOS := hid hos
    rw [hos] at HO hrl hcard
    rw [hos]
    obtain ⟨L, hL⟩ : ∃ L, os.length = L := ⟨_, rfl⟩
    have HL := hid hL
    rw [hL] at hcard
    rw [hL]
    have hL1 : 1 ≤ L := by omega
    have hL2 : L ≤ 5040 := by omega
    have HT5 := hid (fun (h : k < n) => (show L * (k + 1) ≤ 5040 by rw [hcard, hfz2]; exact hfz3 h))
    have HRl := hid hrl
    clear hos hL hrl hcard hfz hfp hfz2 hfz3
    by_cases hlt : k < n
    · have hT5 := HT5.out hlt
      have hT6 := hid hT5
      have hk7 : k ≤ 6 := by omega
      clear hT5 HT5
      have HBb := hid HB
      go_wp2_with fail
      go_loopw [5, 6] (fun v5 s6 wq => ∃ (i : Nat), i ≤ L ∧ s6 = .int .i64 (i : Int) ∧ Hid (OrdT wq w1.heap.size v5 (inzPre os k i 0)) ∧ Hid (Below w1.heap.size w1 wq)) (fun _ s6 _ => L - (intOf s6).toNat)
      case atStart => exact ⟨0, Nat.zero_le _, rfl, by rw [inzPre_zero]; exact OrdT.nil _ _, Below.refl _ _⟩
      case round =>
        obtain ⟨i, hi, rfl, HN, HBq⟩ := hrel
        generalize wr = w2 at *
        by_cases hil : i < L
        · have hrow := HRl.out (rZ os i) (rZ_mem (by rw [HL.out]; exact hil))
          have HRow := hid hrow
          have HOq := hid (HO.out.below HBq.out)
          have hwq := HBq.out.size
          clear hrow
          go_wp2_with fail
          go_loopw [5, 7] (fun v5 s7 ws => ∃ (a : Nat), a ≤ k + 1 ∧ s7 = .int .i64 (a : Int) ∧ Hid (OrdT ws w1.heap.size v5 (inzPre os k i a)) ∧ Hid (Below w1.heap.size w1 ws)) (fun _ s7 _ => (k + 1) - (intOf s7).toNat)
          case atStart => exact ⟨0, Nat.zero_le _, rfl, HN, HBq⟩
          case round =>
            obtain ⟨a, ha, rfl, HN2, HBs⟩ := hrel
            clear HN HOq hwq HBq
            obtain ⟨bo, co', Ai, ci, hv, c0, hRow⟩ := HO.out.row i (by rw [HL.out]; exact hil)
            rw [HL.out] at hv
            simp only [Value.slice.injEq, true_and] at hv
            obtain ⟨rfl, rfl⟩ := hv
            rw [HRow.out] at c0 hRow
            have q1 : (i : Int) < (L : Int) := by omega
            have hsz := HBs.out.size
            have C0 := (HBs.out.cell (cell_lt c0)).trans c0
            have HC0 := hid c0
            clear c0
            by_cases hak : a ≤ k
            · have hsz := HBs.out.size
              obtain ⟨A1, c1, A2, c2, hr1, hr2, hs1, hs2⟩ := cut_row hRow a hak
              obtain ⟨An, Cn, vals, n1, n2, n3, n4⟩ := HN2.out.out
              have HPush := hid (fun (w8 W9 : World) (g c9 : Nat) (v9 : Value) (r : List Int) hb hr hg ho hgr => OrdT.push (w := wr) (w8 := w8) (w9 := W9) (g := g) (c := c9) (v' := v9) (r := r) n1 n2 n3 n4 hb hr hg hsz ho hgr)
              have hTl : (inzPre os (k : Int) i a).length ≤ 5040 := Nat.le_trans (inzPre_len os k k (fun o ho => HRl.out o ho) i a (by rw [HL.out]; exact hil) (by omega)) (by rw [HL.out]; exact hT6.out)
              have HPre := hid (inzPre_a os (k : Int) i a)
              obtain ⟨T, hT⟩ : ∃ T, inzPre os (k : Int) i a = T := ⟨_, rfl⟩
              rw [hT] at n1 hTl HPre HPush
              obtain ⟨row, hrw⟩ : ∃ row, rZ os i = row := ⟨_, rfl⟩
              rw [hrw] at HRow HPre hs1 hs2
              have HN1 := hid n1
              obtain ⟨TL, hTL⟩ : ∃ TL, T.length = TL := ⟨_, rfl⟩
              rw [hTL] at HN1 hTl HPush
              have HS1 := hid (fun (W : World) (hb : Below w1.heap.size w1 W) => hs1.below hb)
              have HS2 := hid (fun (W : World) (hb : Below w1.heap.size w1 W) => hs2.below hb)
              have HLt := hid (show (row.take a).length = a by rw [List.length_take, HRow.out]; omega)
              have HLd := hid (show (row.drop a).length = k - a by rw [List.length_drop, HRow.out])
              have HIn := hid (show row.take a ++ [(k : Int)] ++ row.drop a = inz row k a from rfl)
              have HIl := hid (show (inz row k a).length = k + 1 by rw [inz_len, HRow.out])
              have HKp := hid (fun (W : World) (hb : Below w1.heap.size w1 W) => (show W.cell? ⟨bo, i, none⟩ = some (.slice Ai k ci) ∧ Below w1.heap.size w1 W from ⟨(hb.cell (cell_lt HC0.out)).trans HC0.out, hb⟩))
              have HBl := hid (fun (W : World) (h : W.cell? ⟨bo, i, none⟩ = some (.slice Ai k ci) ∧ Below w1.heap.size w1 W) => h.2)
              have HSz := hid (fun (W : World) (h : W.cell? ⟨bo, i, none⟩ = some (.slice Ai k ci) ∧ Below w1.heap.size w1 W) => h.2.size)
              have hr : Below wr.heap.size wr wr := Below.refl _ _
              have hr1 : Below w1.heap.size w1 wr := HBs.out
              have q3 : (a : Int) ≤ (k : Int) := by omega
              have HTk := hid (show (row.take a).length + 1 + (k - a) ≤ 1000 by rw [HLt.out]; omega)
              clear n1 n2 n3 n4 hs1 hs2 hT hrw hTL hRow
              go_wp2_with fail
              go_region_held3 (fun w' => w'.cell? ⟨bo, i, none⟩ = some (.slice Ai k ci) ∧ Below w1.heap.size w1 w')
                ((refine HKp.out _ ?_; repeat (first | exact hr1 | assumption | apply Below.drew | (refine Below.alloc ?_ (by first | exact HSz.out _ (by assumption) | omega | (simp; done) | (simp; omega)) _) | exact HBl.out _ (by assumption))))
                (first
                  | (refine step_append_own (by rfl) _ _ 22 (by rfl) w1.heap.size 23 i2 (.slice none 0 0) 1 24 Try.underlying22 hinf2 hy0 hy1 hy2 rfl (by decide) _ TL vals (by rfl) (own_below HN1.out (by repeat (first | exact p8 | apply Below.drew | (refine Below.alloc ?_ (by first | exact Below.size (by assumption) | omega | (simp; done) | (simp; omega)) _)))) _ 1 1 [.slice (some ⟨g8, 0, none⟩) (k + 1) c8] (by rfl) (by rfl) (zcell_new (by repeat (first | (with_reducible exact zblk_new _ _ _ (by first | rfl | (simp; done))) | (with_reducible refine zblk_alloc _ ?_) | (with_reducible refine zblk_drew ?_)))) (by intro u hu; simp at hu; subst hu; rfl) (by unfold maxLen; omega) (by omega) (Nat.le_trans hsz (by first | omega | (simp; done) | (simp; omega))) ?_; intro v9 w9 hown9 hgrow9; have pp9 : Below w1.heap.size w1 w9 := Below.grown (HBs.out.trans (Below.mono (by repeat (first | exact p8 | apply Below.drew | (refine Below.alloc ?_ (by first | exact Below.size (by assumption) | omega | (simp; done) | (simp; omega)) _))) hsz)) hgrow9 (by first | omega | (simp; done) | (simp; omega)) (fun q hq => (World.ownsRow.lt HN1.out q hq).1))
                  | (refine step_append_srcZ (by rfl) _ _ 23 (by rfl) wr.heap.size i0 Try.underlying23 hinf hz0 hz1 hz2 v7 (row.take a ++ [(k : Int)]) (by rfl) (by repeat (first | (with_reducible exact hown7) | (with_reducible refine zown_alloc ?_ _) | (with_reducible refine zown_drew ?_))) A2 (k - a) c2 (row.drop a) (by rfl) HLd.out (HS2.out _ (HBl.out _ (by assumption))) (by have := HTk.out; simp only [List.length_append, List.length_singleton]; omega) (by first | omega | (simp; done) | (simp; omega)) ?_; intro v8 w8 hown8 hgrow8; have p8 : Below wr.heap.size wr w8 := Below.grown (by repeat (first | exact p7 | apply Below.drew | (refine Below.alloc ?_ (by first | exact Below.size (by assumption) | omega | (simp; done) | (simp; omega)) _))) hgrow8 (by first | omega | (simp; done) | (simp; omega)) (zown_ge hown7); have z8 := p8.size; have y8 := hgrow8.size; have pp8 := HBs.out.trans (p8.mono hsz); rw [HIn.out] at hown8; obtain ⟨g8, c8, rfl, hg8⟩ := zown_some hown8 HIl.out (Nat.succ_pos k))
                  | (refine step_append_srcZ (by rfl) _ _ 23 (by rfl) wr.heap.size i0 Try.underlying23 hinf hz0 hz1 hz2 v6 (row.take a) (by rfl) (by repeat (first | (with_reducible exact hown6) | (with_reducible refine zown_alloc ?_ _) | (with_reducible refine zown_drew ?_))) _ 1 _ [(k : Int)] (by rfl) (by rfl) (zsrc_one (by repeat (first | (with_reducible exact zblk_new _ _ _ (by first | rfl | (simp; done))) | (with_reducible refine zblk_alloc _ ?_) | (with_reducible refine zblk_drew ?_) | (with_reducible refine zblk_grown hgrow6 ?_ ?_) | (exact zemp_ne (by first | omega | (simp; done) | (simp; omega)))))) (by have := HTk.out; omega) (by first | omega | (simp; done) | (simp; omega)) ?_; intro v7 w7 hown7 hgrow7; have p7 : Below wr.heap.size wr w7 := Below.grown (by repeat (first | exact p6 | apply Below.drew | (refine Below.alloc ?_ (by first | exact Below.size (by assumption) | omega | (simp; done) | (simp; omega)) _))) hgrow7 (by first | omega | (simp; done) | (simp; omega)) (zown_ge hown6); have z7 := p7.size; have y7 := hgrow7.size; have pp7 := HBs.out.trans (p7.mono hsz))
                  | (refine step_append_srcZ (by rfl) _ _ 23 (by rfl) wr.heap.size i0 Try.underlying23 hinf hz0 hz1 hz2 _ [] (by rfl) (zown_empty (by repeat (first | (with_reducible exact zblk_new _ _ _ (by first | rfl | (simp; done))) | (with_reducible refine zblk_alloc _ ?_) | (with_reducible refine zblk_drew ?_))) (by first | omega | (simp; done) | (simp; omega))) A1 a c1 (row.take a) (by rfl) HLt.out (HS1.out _ (HBl.out _ (by assumption))) (by simp; omega) (by first | omega | (simp; done) | (simp; omega)) ?_; intro v6 w6 hown6 hgrow6; have p6 : Below wr.heap.size wr w6 := Below.grown (by repeat (first | exact hr | apply Below.drew | (refine Below.alloc ?_ (by first | exact Below.size (by assumption) | omega | (simp; done) | (simp; omega)) _))) hgrow6 (by first | omega | (simp; done) | (simp; omega)) (zemp_ge (by first | omega | (simp; done) | (simp; omega))); have pp6 := HBs.out.trans (p6.mono hsz); simp only [List.nil_append] at hown6; have z6 := p6.size; have y6 := hgrow6.size))
              all_goals
                have P9 := hid pp9
                rw [← HIl.out] at hown9 hown8 hgrow9
                have hO9 := hid (HPush.out _ _ g8 c8 v9 _ (by repeat (first | exact p8 | apply Below.drew | (refine Below.alloc ?_ (by first | omega | (simp; done) | (simp; omega)) _))) (zown_alloc hown8 _) hg8 hown9 hgrow9)
                clear hown6 hgrow6 hown7 hgrow7 hown8 hgrow8 hown9 hgrow9 p6 pp6 z6 y6 p7 pp7 z7 y7 p8 pp8 z8 y8 pp9 hg8 hr hr1
                as_aux_lemma =>
                  go_wp2_with fail
                  go_roundw
                  case rel => exact ⟨a + 1, by omega, by go_num, by rw [HPre.out]; exact hO9.out, P9⟩
                  case measure => simp [intOf]; omega
            · obtain rfl : a = k + 1 := by omega
              have HNx := hid (show inzPre os (k : Int) i (k + 1) = inzPre os (k : Int) (i + 1) 0 from by
                have := inzPre_i os (k : Int) i (by rw [HL.out]; exact hil)
                rwa [HRow.out] at this)
              as_aux_lemma =>
                go_wp2_with fail
                go_roundw
                case rel => exact ⟨i + 1, by omega, by go_num, by rw [← HNx.out]; exact HN2.out, HBs⟩
                case measure => simp [intOf]; omega
        · obtain rfl : i = L := by omega
          have HEnd := hid (show inzPre os (k : Int) i 0 = ordz (k + 1) from by
            rw [← HL.out, inzPre_end, ← HOS.out]; rfl)
          have HBz := hid (HB.out.trans (HBq.out.mono HB.out.size))
          have hbz := HB.out.size
          as_aux_lemma =>
            go_wp2_with fail
            go_roundw
            case rel => exact ⟨k + 1, by omega, by go_num, by rw [← HEnd.out]; exact HN.out.weak hbz, HBz⟩
            case measure => simp [intOf]; omega
    · obtain rfl : k = n := by omega
      rw [show os = ordz k from HOS.out.symm] at HO HL
      as_aux_lemma =>
        go_wp2
        go_ret
        exact ⟨HB.out, Ao, co, by rw [HL.out]; rfl, HO.out⟩
end Go.Proofs.Ytbffdpcogfmomaa
