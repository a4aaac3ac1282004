/- Tables of rows in blocks of their own; cuts of a row; append of any row as a step: for the document's Orders. -/
import Derived.Test.YtbffdpcogfmomaaOrdersM
import Derived.Test.YtbffdpcogfmomaaRowsI
import Derived.Test.YtbffdpcogfmomaaAppend
import Derived.Test.YtbffdpcogfmomaaStepApp
import Derived.Laws.Rows
set_option linter.unusedVariables false
namespace Go.Proofs.Ytbffdpcogfmomaa
open Go.RowKit

theorem zlt_block {w : World} {k : Nat} {ob : Obj} (h : w.heap[k]? = some ob) : k < w.heap.size := (Array.getElem?_eq_some_iff.1 h).1
theorem zblk_keep {w w' : World} {g : Nat} {ob : Obj} (h : w.heap[g]? = some ob) (hb : Below w.heap.size w w') : w'.heap[g]? = some ob := (hb.block g (zlt_block h)).trans h
theorem zints_info : (Try.prog.info? 23).map (fun i => (i.zero, i.size, i.bytes)) = some (some (.slice none 0 0), 1, 24) := by kernel_rfl
/-- A place that holds the elements of a list of int; no place is wanted of an empty list. -/
def SrcZ (w : World) (A : Option Addr) (xs : List Int) : Prop := xs.length = 0 ∨ ∃ ad, A = some ad ∧ ∀ (j : Nat) (u : Value), (xs.map (Value.int .i64))[j]? = some u → w.cell? (ad.add j) = some u
theorem SrcZ.below {w w' : World} {A : Option Addr} {xs : List Int} (h : SrcZ w A xs) (hb : Below w.heap.size w w') : SrcZ w' A xs := by
  rcases h with h | ⟨ad, e, hc⟩
  · exact .inl h
  · refine .inr ⟨ad, e, fun j u hu => ?_⟩
    have h1 := hc j u hu
    exact (hb.cell (cell_lt h1)).trans h1
theorem zadd_none (b off i : Nat) : (⟨b, off, none⟩ : Addr).add i = ⟨b, off + i, none⟩ := by
  unfold Addr.add; split
  · simp_all
  · rfl
theorem zone (xs : List Int) : ∀ u ∈ xs.map (Value.int .i64), u.oneCell' = true := by
  intro u hu
  obtain ⟨x, _, rfl⟩ := List.mem_map.1 hu
  rfl
/-- What is known of a row of int of the call's own: its place. -/
theorem own_place {w : World} {base n c : Nat} {A : Option Addr} {xs : List Int} (h : Own w base (.slice A n c) xs) : n = xs.length ∧ xs.length ≤ c ∧ ((A = none ∧ xs = []) ∨ ∃ g, A = some ⟨g, 0, none⟩ ∧ base ≤ g ∧ g < w.heap.size ∧ ∀ (j : Nat) (u : Value), (xs.map (Value.int .i64))[j]? = some u → w.cell? ⟨g, j, none⟩ = some u) := by
  obtain ⟨h1, h2⟩ := h
  rcases h2 with ⟨hv, hn⟩ | ⟨g, cap, cur, hv, hg, hh, hc, _, hs, ht⟩
  · simp only [Value.slice.injEq] at hv
    obtain ⟨rfl, rfl, rfl⟩ := hv
    exact ⟨hn.symm, by omega, .inl ⟨rfl, List.eq_nil_of_length_eq_zero hn⟩⟩
  · simp only [Value.slice.injEq] at hv
    obtain ⟨rfl, rfl, rfl⟩ := hv
    refine ⟨rfl, hc, .inr ⟨g, rfl, hg, zlt_block hh, fun j u hu => ?_⟩⟩
    have hj : j < xs.length := by
      have := (List.getElem?_eq_some_iff.1 hu).1
      simpa using this
    rw [cell_of_row w g j cur _ _ hh]
    have h3 : (cur.toList.take (xs.length * 1))[j]? = some u := by rw [ht]; exact hu
    rw [List.getElem?_take_of_lt (by omega)] at h3
    simpa using h3
theorem src_take {w : World} {g : Nat} {xs : List Int} (h : ∀ (j : Nat) (u : Value), (xs.map (Value.int .i64))[j]? = some u → w.cell? ⟨g, j, none⟩ = some u) (a : Nat) : SrcZ w (some ⟨g, 0, none⟩) (xs.take a) := by
  refine .inr ⟨_, rfl, fun j u hu => ?_⟩
  rw [zadd_none, Nat.zero_add]
  refine h j u ?_
  rw [List.getElem?_map] at hu ⊢
  have hj : j < a := by
    rcases Nat.lt_or_ge j a with h | h
    · exact h
    · rw [List.getElem?_eq_none (by rw [List.length_take]; omega)] at hu; simp at hu
  rwa [List.getElem?_take_of_lt hj] at hu
theorem src_drop {w : World} {g : Nat} {xs : List Int} (h : ∀ (j : Nat) (u : Value), (xs.map (Value.int .i64))[j]? = some u → w.cell? ⟨g, j, none⟩ = some u) (a : Nat) : SrcZ w (some ⟨g, a, none⟩) (xs.drop a) := by
  refine .inr ⟨_, rfl, fun j u hu => ?_⟩
  rw [zadd_none]
  refine h (a + j) u ?_
  rw [List.getElem?_map] at hu ⊢
  rwa [List.getElem?_drop] at hu
set_option maxRecDepth 100000 in
theorem run_to (A : Option Addr) (n c a : Nat) (ha : a ≤ n) (hn : n ≤ c) : ∃ A1 c1, (A1 = A ∨ ∃ g, A = some g ∧ A1 = some (g.add 0)) ∧ ∀ W : World, (Instr.sliceAt 23 (.slice A n c) none (some (.int .i64 (a : Int))) none).run Try.prog W = .ok (.slice A1 a c1) W := by
  obtain ⟨i0, hinf, hz0, hz1, hz2⟩ := info_parts int_info
  refine ⟨if c = 0 then A else A.map (·.add (0 * i0.size)), c - 0, ?_, fun W => ?_⟩
  · by_cases h : c = 0
    · rw [if_pos h]; exact .inl rfl
    · rw [if_neg h]
      cases A with
      | none => exact .inl rfl
      | some g => exact .inr ⟨g, rfl, by simp⟩
  · have hb := run_sliceBound (P := Try.prog) (w := W) .i64 (a : Int) c .sliceAcap (by omega) (by omega)
    simp [Instr.sliceAt, Instr.slice, Instr.sliceBounds, run_underlying Try.underlying23, hb, sizeOf, typeInfo, hinf, go_sem]
set_option maxRecDepth 100000 in
theorem run_from (A : Option Addr) (n c a : Nat) (ha : a ≤ n) (hn : n ≤ c) : ∃ A1 c1, (a = n ∨ A1 = A.map (·.add a)) ∧ ∀ W : World, (Instr.sliceAt 23 (.slice A n c) (some (.int .i64 (a : Int))) none none).run Try.prog W = .ok (.slice A1 (n - a) c1) W := by
  obtain ⟨i0, hinf, hz0, hz1, hz2⟩ := info_parts int_info
  refine ⟨if c = a then A else A.map (·.add (a * i0.size)), c - a, ?_, fun W => ?_⟩
  · by_cases h : c = a
    · exact .inl (by omega)
    · rw [if_neg h, hz1, Nat.mul_one]
      exact .inr rfl
  · have hb := run_sliceBound (P := Try.prog) (w := W) .i64 (a : Int) n .sliceB (by omega) (by omega)
    simp [Instr.sliceAt, Instr.slice, Instr.sliceBounds, run_underlying Try.underlying23, hb, sizeOf, typeInfo, hinf, go_sem]
/-- A row cut in two: what both cuts answer, and where their elements lie. -/
theorem cut_row {w : World} {base n c : Nat} {A : Option Addr} {xs : List Int} (h : Own w base (.slice A n c) xs) (a : Nat) (ha : a ≤ n) :
    ∃ A1 c1 A2 c2, (∀ W : World, (Instr.sliceAt 23 (.slice A n c) none (some (.int .i64 (a : Int))) none).run Try.prog W = .ok (.slice A1 a c1) W) ∧ (∀ W : World, (Instr.sliceAt 23 (.slice A n c) (some (.int .i64 (a : Int))) none none).run Try.prog W = .ok (.slice A2 (n - a) c2) W) ∧ SrcZ w A1 (xs.take a) ∧ SrcZ w A2 (xs.drop a) := by
  obtain ⟨hn, hc, hp⟩ := own_place h
  obtain ⟨A1, c1, h1, r1⟩ := run_to A n c a ha (by omega)
  obtain ⟨A2, c2, h2, r2⟩ := run_from A n c a ha (by omega)
  refine ⟨A1, c1, A2, c2, r1, r2, ?_, ?_⟩
  · rcases hp with ⟨_, rfl⟩ | ⟨g, rfl, _, _, hg⟩
    · exact .inl (by simp)
    · rcases h1 with rfl | ⟨g', e, rfl⟩
      · exact src_take hg a
      · cases e
        rw [zadd_none]
        exact src_take hg a
  · rcases hp with ⟨_, rfl⟩ | ⟨g, rfl, _, _, hg⟩
    · exact .inl (by simp)
    · rcases h2 with rfl | rfl
      · exact .inl (by simp; omega)
      · simp only [Option.map_some, zadd_none, Nat.zero_add]
        exact src_drop hg a
/-- append of a list that lies anywhere to a row of the call's own, as a step of a region that draws. -/
theorem step_append_srcZ {P : Program} {ops : Array Oper} {o : Oper} {a : Act} {w : World} {K : Act → World → Prop} {Q : Exit → Act → World → Prop} {E : Prop}
    (hg : o.guard = none) (s x : Operand) (t : TypeId) (hop : o.op = Op.call { callee := Callee.builtin Builtin.append, args := #[s, x], argTypes := #[t, t] })
    (base : Nat) (i : TypeInfo) (h1 : P.underlying t = some (.slice 3)) (h2 : P.info? 3 = some i) (h3 : i.zero = some (.int .i64 0)) (h4 : i.size = 1) (h5 : i.bytes = 8)
    (v : Value) (xs : List Int) (hs : a.eval s = v) (hown : Own w base v xs)
    (A : Option Addr) (m c : Nat) (news : List Int) (hx : a.eval x = .slice A m c) (hn : news.length = m) (hc : SrcZ w A news)
    (b1 : xs.length + m ≤ 1000000) (hbase : base ≤ w.heap.size)
    (hK : ∀ v' w', Own w' base v' (xs ++ news) → w.grownBy w' v.ownBlock → K (a.put o.dst v') w') :
    if Region.wanted o (yielded ops a.tmps) = true then Oper.wp P o a w K Q else E := by
  have hw : Region.wanted o (yielded ops a.tmps) = true := by simp [Region.wanted, hg]
  have hK' : ∀ v' w', w'.ownsRow base 3 1 v' (xs.length + m) (xs.map (Value.int .i64) ++ news.map (Value.int .i64)) → w.grownBy w' v.ownBlock → K (a.put o.dst v') w' := fun v' w' r1 r2 => hK v' w' (by
    unfold Own
    rw [List.map_append, List.length_append, hn]; exact r1) r2
  cases A with
  | some ad =>
    have hcell : ∀ (j : Nat) (u : Value), (news.map (Value.int .i64))[j]? = some u → w.cell? (ad.add j) = some u := by
      rcases hc with h0 | ⟨ad', e', hc⟩
      · intro j u hu
        have : news = [] := List.eq_nil_of_length_eq_zero h0
        subst this
        simp at hu
      · cases e'; exact hc
    rw [if_pos hw]
    obtain ⟨v', w', hrun, r1, r2, _⟩ := run_append_own (P := P) w base t o.type 3 i (.int .i64 0) 1 8 h1 h2 h3 h4 h5 rfl (by decide) v xs.length (xs.map (Value.int .i64)) hown ad m c (news.map (Value.int .i64)) (by rw [List.length_map, Nat.mul_one]; exact hn) hcell (zone news) (by unfold maxLen; omega) (by omega) hbase
    unfold Oper.wp
    simp [execOp, hop, resolve, invoke, builtin, hs, hx, hrun, Result.andThen]
    exact hK' v' w' r1 r2
  | none =>
    have hm : news = [] := by
      rcases hc with h0 | ⟨ad', e', _⟩
      · exact List.eq_nil_of_length_eq_zero h0
      · cases e'
    subst hm
    obtain rfl : m = 0 := by simpa using hn.symm
    have hrun : (Builtin.append_ #[t, t] o.type #[v, .slice none 0 c]).run P w = .ok v w := by
      have h0 := hown.2
      rcases h0 with ⟨rfl, _⟩ | ⟨g, cap, cur, rfl, _, _, hnc, _⟩
      · simp [Builtin.append_, Builtin.firstCells, Builtin.lenOf, run_underlying h1, typeInfo, h2, sizeOf]
      · simp [Builtin.append_, Builtin.firstCells, Builtin.lenOf, run_underlying h1, typeInfo, h2, sizeOf, storeCells, hnc]
    rw [if_pos hw]
    unfold Oper.wp
    simp [execOp, hop, resolve, invoke, builtin, hs, hx, hrun, Result.andThen]
    exact hK' v w (by unfold Own at hown; simpa using hown) (World.grownBy.refl _ _)
/-- A table of the call's own, its rows in blocks of their own. -/
structure OrdT (w : World) (base : Nat) (v : Value) (T : List (List Int)) : Prop where
  out : ∃ (A : Nat → Option Addr) (C : Nat → Nat) (vals : List Value), w.ownsRow base 23 1 v T.length vals ∧ (∀ i, i < T.length → vals[i]? = some (.slice (A i) (rZ T i).length (C i))) ∧ (∀ i, i < T.length → Own w base (.slice (A i) (rZ T i).length (C i)) (rZ T i)) ∧ ∀ i j, i < j → j < T.length → A i ≠ A j
theorem OrdT.nil (w : World) (base : Nat) : OrdT w base (.slice none 0 0) [] := ⟨fun _ => none, fun _ => 0, [], ⟨rfl, .inl ⟨rfl, rfl⟩⟩, fun i hi => by simp at hi, fun i hi => by simp at hi, fun i j h hj => by simp at hj⟩
theorem OrdT.below {w w' : World} {base : Nat} {v : Value} {T : List (List Int)} (h : OrdT w base v T) (hb : Below w.heap.size w w') : OrdT w' base v T := by
  obtain ⟨A, C, vals, h1, h2, h3, h4⟩ := h.out
  exact ⟨A, C, vals, own_below h1 hb, h2, fun i hi => (h3 i hi).below hb, h4⟩
theorem OrdT.weak {w : World} {base base' : Nat} {v : Value} {T : List (List Int)} (h : OrdT w base v T) (hb : base' ≤ base) : OrdT w base' v T := by
  obtain ⟨A, C, vals, h1, h2, h3, h4⟩ := h.out
  exact ⟨A, C, vals, own_weak h1 hb, h2, fun i hi => own_weak (h3 i hi) hb, h4⟩
theorem OrdT.val {w : World} {base : Nat} {v : Value} {T : List (List Int)} (h : OrdT w base v T) : ∃ A c, v = .slice A T.length c := by
  obtain ⟨A, C, vals, h1, _⟩ := h.out
  rcases h1.2 with ⟨hv, hn⟩ | ⟨g, c, cur, hv, _⟩
  · exact ⟨none, 0, by rw [hv, hn]⟩
  · exact ⟨_, _, hv⟩
theorem own_grown_tab {w w' : World} {base b2 : Nat} {v u : Value} {n : Nat} {vals : List Value} {xs : List Int} (ho : w.ownsRow base 23 1 v n vals) (hx : Own w b2 u xs) (hg : w.grownBy w' v.ownBlock) : Own w' b2 u xs := by
  obtain ⟨h1, h2⟩ := hx
  refine ⟨h1, ?_⟩
  rcases h2 with h2 | ⟨g, cap, cur, hv, hg2, hh, r⟩
  · exact .inl h2
  · refine .inr ⟨g, cap, cur, hv, hg2, ?_, r⟩
    rw [hg.block g ((Array.getElem?_eq_some_iff.1 hh).1) ?_]
    · exact hh
    · intro e
      rcases ho.2 with ⟨hv', _⟩ | ⟨g', cap', cur', hv', _, hh', _⟩
      · rw [hv'] at e; simp [Value.ownBlock] at e
      · rw [hv'] at e
        simp only [Value.ownBlock, Option.some.injEq] at e
        subst e
        rw [hh] at hh'
        simp at hh'
/-- The row i of such a table in memory. -/
theorem OrdT.row {w : World} {base : Nat} {v : Value} {T : List (List Int)} (h : OrdT w base v T) (i : Nat) (hi : i < T.length) : ∃ g c A d, v = .slice (some ⟨g, 0, none⟩) T.length c ∧ w.cell? ⟨g, i, none⟩ = some (.slice A (rZ T i).length d) ∧ Own w base (.slice A (rZ T i).length d) (rZ T i) := by
  obtain ⟨A, C, vals, h1, h2, h3, _⟩ := h.out
  rcases h1.2 with ⟨_, hn⟩ | ⟨g, cap, cur, hv, hg, hh, hc, hm, hs, ht⟩
  · omega
  · refine ⟨g, cap, A i, C i, hv, ?_, h3 i hi⟩
    rw [cell_of_row w g i cur _ _ hh]
    have e1 : (cur.toList.take (T.length * 1))[i]? = vals[i]? := by rw [ht]
    rw [List.getElem?_take_of_lt (by omega), h2 i hi] at e1
    simpa using e1
theorem OrdT.push {w w8 w9 : World} {base g c : Nat} {v v' : Value} {T : List (List Int)} {r : List Int} {A : Nat → Option Addr} {C : Nat → Nat} {vals : List Value}
    (h1 : w.ownsRow base 23 1 v T.length vals) (h2 : ∀ i, i < T.length → vals[i]? = some (.slice (A i) (rZ T i).length (C i))) (h3 : ∀ i, i < T.length → Own w base (.slice (A i) (rZ T i).length (C i)) (rZ T i)) (h4 : ∀ i j, i < j → j < T.length → A i ≠ A j)
    (hb : Below w.heap.size w w8) (hr : Own w8 w.heap.size (.slice (some ⟨g, 0, none⟩) r.length c) r) (hg : w.heap.size ≤ g) (hbs : base ≤ w.heap.size)
    (ho : w9.ownsRow base 23 1 v' (T.length + 1) (vals ++ [.slice (some ⟨g, 0, none⟩) r.length c])) (hgr : w8.grownBy w9 v.ownBlock) : OrdT w9 base v' (T ++ [r]) := by
  have hvl : vals.length = T.length := by have := h1.1; omega
  have hr8 := own_below h1 hb
  refine ⟨fun i => if i = T.length then some ⟨g, 0, none⟩ else A i, fun i => if i = T.length then c else C i, vals ++ [.slice (some ⟨g, 0, none⟩) r.length c], by rw [List.length_append]; exact ho, fun i hi => ?_, fun i hi => ?_, fun i j hij hj => ?_⟩
  · dsimp only
    rw [rZ_app]
    by_cases h : i < T.length
    · have e : ¬ i = T.length := by omega
      simp only [e, h, if_true, if_false]
      rw [List.getElem?_append_left (by omega)]; exact h2 i h
    · have e : i = T.length := by simp at hi; omega
      subst e
      simp only [h, if_true, if_false]
      rw [List.getElem?_append_right (by omega), hvl]; simp
  · dsimp only
    rw [rZ_app]
    by_cases h : i < T.length
    · have e : ¬ i = T.length := by omega
      simp only [e, h, if_true, if_false]
      exact own_grown_tab hr8 ((h3 i h).below hb) hgr
    · have e : i = T.length := by simp at hi; omega
      subst e
      simp only [h, if_true, if_false]
      exact own_grown_tab hr8 (own_weak hr hbs) hgr
  · have hj' : j < T.length ∨ j = T.length := by simp at hj; omega
    rcases hj' with h | h
    · simp only [if_neg (show ¬ i = T.length by omega), if_neg (show ¬ j = T.length by omega)]
      exact h4 i j hij h
    · simp only [if_neg (show ¬ i = T.length by omega), if_pos h]
      intro e
      obtain ⟨_, _, hp⟩ := own_place (h3 i (by omega))
      rcases hp with ⟨e2, _⟩ | ⟨g', e2, _, hlt, _⟩
      · rw [e2] at e; cases e
      · rw [e2] at e
        simp only [Option.some.injEq, Addr.mk.injEq, and_true] at e
        omega
end Go.Proofs.Ytbffdpcogfmomaa
