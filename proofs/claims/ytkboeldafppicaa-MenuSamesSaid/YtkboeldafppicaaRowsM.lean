/- The memory of a copy of a machine. -/
import Derived.Test.YtkboeldafppicaaLstI
import Derived.Test.YtkboeldafppicaaMachA
import Derived.Test.YtkboeldafppicaaStepSrc
set_option linter.unusedVariables false
namespace Go.Proofs.Ytkboeldafppicaa
open Go.RowKit

def tRM (t : List (List Int)) (i : Nat) : List Int := t[i]?.getD []
/-- A table of the call's own. -/
def RowsM (w : World) (base : Nat) (v : Value) (t : List (List Int)) : Prop :=
  ∃ vals : List Value, w.ownsRow base 26 1 v t.length vals ∧ ∀ i, i < t.length → ∃ A c, vals[i]? = some (.slice A (tRM t i).length c) ∧ Own w base (.slice A (tRM t i).length c) (tRM t i)
theorem RowsM.nil (w : World) (base : Nat) : RowsM w base (.slice none 0 0) [] := ⟨[], ⟨rfl, .inl ⟨rfl, rfl⟩⟩, fun i hi => by simp at hi⟩
theorem RowsM.below {w w' : World} {base : Nat} {v : Value} {t : List (List Int)} (h : RowsM w base v t) (hb : Below w.heap.size w w') : RowsM w' base v t := by
  obtain ⟨vals, h1, h2⟩ := h
  refine ⟨vals, own_below h1 hb, fun i hi => ?_⟩
  obtain ⟨A, c, h3, h4⟩ := h2 i hi
  exact ⟨A, c, h3, h4.below hb⟩
theorem RowsM.weak {w : World} {base base' : Nat} {v : Value} {t : List (List Int)} (h : RowsM w base v t) (hb : base' ≤ base) : RowsM w base' v t := by
  obtain ⟨vals, h1, h2⟩ := h
  refine ⟨vals, own_weak h1 hb, fun i hi => ?_⟩
  obtain ⟨A, c, h3, h4⟩ := h2 i hi
  exact ⟨A, c, h3, own_weak h4 hb⟩
theorem tRM_app (t : List (List Int)) (r : List Int) (i : Nat) : tRM (t ++ [r]) i = if i < t.length then tRM t i else if i = t.length then r else [] := by
  unfold tRM
  by_cases h : i < t.length
  · rw [if_pos h, List.getElem?_append_left h]
  · rw [if_neg h, List.getElem?_append_right (by omega)]
    by_cases e : i = t.length
    · subst e; simp
    · rw [if_neg e]
      have : [r][i - t.length]? = none := by simp; omega
      rw [this]; rfl
/-- A list of int that is the call's own is kept where a row of slices grows. -/
theorem own_grown_rowsM {w w' : World} {base b2 : Nat} {v u : Value} {n : Nat} {vals : List Value} {xs : List Int} (ho : w.ownsRow base 26 1 v n vals) (hx : Own w b2 u xs) (hg : w.grownBy w' v.ownBlock) : Own w' b2 u xs := by
  obtain ⟨h1, h2⟩ := hx
  refine ⟨h1, ?_⟩
  rcases h2 with h2 | ⟨g, cap, cur, hv, hg2, hh, r⟩
  · exact .inl h2
  · refine .inr ⟨g, cap, cur, hv, hg2, ?_, r⟩
    rw [hg.block g ((Array.getElem?_eq_some_iff.1 hh).1) ?_]
    · exact hh
    · intro e
      rcases ho.2 with ⟨hv', _⟩ | ⟨g', cap', cur', hv', _, hh', _⟩
      · rw [hv'] at e; simp [Value.ownBlock] at e
      · rw [hv'] at e
        simp only [Value.ownBlock, Option.some.injEq] at e
        subst e
        rw [hh] at hh'
        simp at hh'
theorem RowsM.push {w w' : World} {base : Nat} {v v' : Value} {t : List (List Int)} {A : Option Addr} {c : Nat} {r : List Int} {vals : List Value} (hcl : w.ownsRow base 26 1 v t.length vals) (hc : ∀ i, i < t.length → ∃ A c, vals[i]? = some (.slice A (tRM t i).length c) ∧ Own w base (.slice A (tRM t i).length c) (tRM t i))
    (hr : Own w base (.slice A r.length c) r) (ho : w'.ownsRow base 26 1 v' (t.length + 1) (vals ++ [.slice A r.length c])) (hg : w.grownBy w' v.ownBlock) : RowsM w' base v' (t ++ [r]) := by
  refine ⟨vals ++ [.slice A r.length c], by rw [List.length_append]; exact ho, fun i hi => ?_⟩
  have hvl : vals.length = t.length := by have := hcl.1; omega
  rw [tRM_app]
  by_cases h : i < t.length
  · rw [if_pos h]
    obtain ⟨B, d, h3, h4⟩ := hc i h
    exact ⟨B, d, by rw [List.getElem?_append_left (by omega)]; exact h3, own_grown_rowsM hcl h4 hg⟩
  · have e : i = t.length := by simp at hi; omega
    subst e
    rw [if_neg h, if_pos rfl]
    exact ⟨A, c, by rw [List.getElem?_append_right (by omega), hvl]; simp, own_grown_rowsM hcl hr hg⟩
theorem row_cellM {w : World} {base : Nat} {e : TypeId} {g n c : Nat} {cl : List Value} (h : w.ownsRow base e 1 (.slice (some ⟨g, 0, none⟩) n c) n cl) (j : Nat) (u : Value) (hj : cl[j]? = some u) : w.cell? ⟨g, j, none⟩ = some u := by
  rcases h.2 with ⟨h', _⟩ | ⟨g', c', cur, h', hg, hh, hnc, hm, hs, ht⟩
  · simp at h'
  · simp only [Value.slice.injEq, Option.some.injEq, Addr.mk.injEq, and_true, true_and] at h'
    obtain ⟨rfl, rfl⟩ := h'
    unfold World.cell?
    rw [hh]
    simp only [Option.isSome_none, Bool.false_eq_true, if_false]
    rw [← ht] at hj
    rw [← Array.getElem?_toList]
    rw [List.getElem?_take] at hj
    split at hj
    · exact hj
    · cases hj
/-- As a table that reads. -/
theorem RowsM.tab {w : World} {base : Nat} {v : Value} {t : List (List Int)} (h : RowsM w base v t) (hl : t.length ≤ 1000) (hr : ∀ i, i < t.length → (tRM t i).length ≤ 1000 ∧ ∀ x ∈ tRM t i, -9223372036854775808 ≤ x ∧ x ≤ 9223372036854775807) : ∃ A c, v = .slice A t.length c ∧ (t.length ≤ 140737488355328 ∧ (t = [] ∨ ∃ b off, A = some ⟨b, off, none⟩ ∧ ∀ i, i < t.length → ∃ A2 c2, w.cell? ⟨b, off + i, none⟩ = some (.slice A2 (t[i]?.getD []).length c2) ∧ Ints w A2 (t[i]?.getD []))) := by
  obtain ⟨vals, ho, hc⟩ := h
  rcases ho.2 with ⟨hv, hn⟩ | ⟨g, c, cur, hv, hg, _⟩
  · exact ⟨none, 0, by rw [hv, hn], ⟨by omega, .inl (List.eq_nil_of_length_eq_zero hn)⟩⟩
  · subst hv
    refine ⟨_, c, rfl, ⟨by omega, .inr ⟨g, 0, rfl, fun i hi => ?_⟩⟩⟩
    obtain ⟨A, d, h1, h2⟩ := hc i hi
    obtain ⟨a', c', hv', hI⟩ := h2.ints (by have := (hr i hi).1; omega) (hr i hi).2
    cases hv'
    exact ⟨A, d, by rw [Nat.zero_add]; exact row_cellM ho i _ h1, hI⟩

/-- What lies in cells of one type does not lie in cells of another. -/
theorem own_ne {w : World} {base : Nat} {e t : TypeId} {s : Nat} {v : Value} {n : Nat} {xs : List Value} {g : Nat} {cs : Array Value} {fr : Nat × Nat} (h : w.ownsRow base e s v n xs) (hg : w.heap[g]? = some (.cells cs t fr)) (hne : e ≠ t) : v.ownBlock ≠ some g := by
  intro e2
  rcases h.2 with ⟨hv, _⟩ | ⟨g', cap', cur', hv, _, hh, _⟩
  · rw [hv] at e2; simp [Value.ownBlock] at e2
  · rw [hv] at e2
    simp only [Value.ownBlock, Option.some.injEq] at e2
    subst e2
    rw [hg] at hh
    simp at hh
    exact hne hh.2.1.symm
/-- A copy under way: the rows t lie in slices of the call's own, the machine's box is the block g3. -/
structure CopP (w0 w : World) (g3 : Nat) (L : Int) (t : List (List Int)) (vN : Value) (accs : List Bool) (vA : Value) : Prop where
  bel : Below w0.heap.size w0 w
  N : RowsM w w0.heap.size vN t
  A : w.ownsRow w0.heap.size 4 1 vA accs.length (accs.map Value.bool)
  lo : w0.heap.size ≤ g3
  k : ∃ cs fr, w.heap[g3]? = some (.cells cs 25 fr)
  c0 : w.cell? ⟨g3, 0, none⟩ = some (.int .i64 L)
  c1 : w.cell? ⟨g3, 1, none⟩ = some vN
  c2 : w.cell? ⟨g3, 2, none⟩ = some vA
  z1 : w.frozen? ⟨g3, 1, none⟩ = false
section
variable {w0 w w' : World} {g3 : Nat} {L : Int} {t : List (List Int)} {vN vA : Value} {accs : List Bool}
theorem CopP.below (h : CopP w0 w g3 L t vN accs vA) (hb : Below w.heap.size w w') : CopP w0 w' g3 L t vN accs vA := by
  obtain ⟨cs, fr, hk⟩ := h.k
  exact { bel := h.bel.trans (hb.mono h.bel.size)
          N := h.N.below hb
          A := own_below h.A hb
          lo := h.lo
          k := ⟨cs, fr, by rw [hb.block g3 (cell_lt h.c0)]; exact hk⟩
          c0 := (hb.cell (cell_lt h.c0)).trans h.c0
          c1 := (hb.cell (cell_lt h.c1)).trans h.c1
          c2 := (hb.cell (cell_lt h.c2)).trans h.c2
          z1 := (hb.frozen (p := ⟨g3, 1, none⟩) (cell_lt h.c1)).trans h.z1 }
theorem setCell_kind {g o : Nat} {cs : Array Value} {ty : TypeId} {fr : Nat × Nat} (u : Value) (h : w.heap[g]? = some (.cells cs ty fr)) : ∃ cs', (w.setCell ⟨g, o, none⟩ u).heap[g]? = some (.cells cs' ty fr) := by
  have e : (w.setCell ⟨g, o, none⟩ u).heap[g]? = some (.cells (cs.setIfInBounds o u) ty fr) := by
    unfold World.setCell
    dsimp only
    rw [Array.getElem?_modify, if_pos rfl, h]
    rfl
  exact ⟨_, e⟩
theorem CopP.push {v' : Value} {A : Option Addr} {c : Nat} {r : List Int} {vals : List Value} (h : CopP w0 w g3 L t vN accs vA) (hcl : w.ownsRow w0.heap.size 26 1 vN t.length vals) (hc : ∀ i, i < t.length → ∃ A c, vals[i]? = some (.slice A (tRM t i).length c) ∧ Own w w0.heap.size (.slice A (tRM t i).length c) (tRM t i))
    (hr : Own w w0.heap.size (.slice A r.length c) r) (ho : w'.ownsRow w0.heap.size 26 1 v' (t.length + 1) (vals ++ [.slice A r.length c])) (hg : w.grownBy w' vN.ownBlock) : CopP w0 (w'.setCell ⟨g3, 1, none⟩ v') g3 L (t ++ [r]) v' accs vA := by
  obtain ⟨cs, fr, hk⟩ := h.k
  have hn3 : vN.ownBlock ≠ some g3 := own_ne hcl hk (by decide)
  have hR := RowsM.push hcl hc hr ho hg
  have hc1 := (grown_cell hg (cell_lt h.c1) hn3).trans h.c1
  have hk' : w'.heap[g3]? = some (.cells cs 25 fr) := by rw [hg.block g3 (cell_lt h.c1) (fun e => hn3 e.symm)]; exact hk
  have hbw : Below w0.heap.size w0 w' := h.bel.grown hg h.bel.size (fun q hq => by
    have := (hcl.lt q hq).1; omega)
  have hA' : w'.ownsRow w0.heap.size 4 1 vA accs.length (accs.map Value.bool) := kept_or h.A hg (fun q hq e => by
    rcases h.A.2 with ⟨hv, _⟩ | ⟨g, cap, cur, hv, _, hh, _⟩
    · rw [hv] at e; cases e
    · rw [hv] at e
      simp only [Value.ownBlock, Option.some.injEq] at e
      subst e
      exact own_ne hcl hh (by decide) hq)
  obtain ⟨cs', hk2⟩ := setCell_kind (o := 1) v' hk'
  have keep : ∀ {e : TypeId} {s : Nat} {v : Value} {n : Nat} {xs : List Value}, w'.ownsRow w0.heap.size e s v n xs → e ≠ 25 → (w'.setCell ⟨g3, 1, none⟩ v').ownsRow w0.heap.size e s v n xs := fun hx hne => kept_or hx (setCell_grown _ _ _) (fun q hq e2 => by
    cases hq
    exact own_ne hx hk' hne e2)
  exact { bel := hbw.setCell (p := ⟨g3, 1, none⟩) h.lo _
          N := by
            obtain ⟨vs, h1, h2⟩ := hR
            exact ⟨vs, keep h1 (by decide), fun i hi => by
              obtain ⟨A, c, h3, h4⟩ := h2 i hi
              exact ⟨A, c, h3, keep h4 (by decide)⟩⟩
          A := keep hA' (by decide)
          lo := h.lo
          k := ⟨cs', fr, hk2⟩
          c0 := by rw [World.cell?_setCell_other _ _ _ _ (by simp)]; exact (grown_cell hg (cell_lt h.c0) hn3).trans h.c0
          c1 := World.cell?_setCell_same _ _ _ hc1
          c2 := by rw [World.cell?_setCell_other _ _ _ _ (by simp)]; exact (grown_cell hg (cell_lt h.c2) hn3).trans h.c2
          z1 := by rw [World.frozen?_setCell]; exact (grown_frozen hg (p := ⟨g3, 1, none⟩) (cell_lt h.c1) hn3).trans h.z1 }
theorem CopP.made1 {w5 : World} {v5 : Value} (hb : Below w0.heap.size w0 w5) (hA : w5.ownsRow w0.heap.size 4 1 v5 accs.length (accs.map Value.bool)) : CopP w0 (w5.alloc (.cells #[.int .i64 L, .slice none 0 0, v5] 25)) w5.heap.size L [] (.slice none 0 0) accs v5 :=
  { bel := hb.alloc hb.size _
    N := RowsM.nil _ _
    A := own_below hA ((Below.refl _ _).alloc (Nat.le_refl _) _)
    lo := hb.size
    k := ⟨_, _, heap_alloc_new _ _⟩
    c0 := by go_simp
    c1 := by go_simp
    c2 := by go_simp
    z1 := by go_simp }
theorem CopP.made2 {w5 : World} {v5 z0 z1 z2 : Value} (hb : Below w0.heap.size w0 w5) (hA : w5.ownsRow w0.heap.size 4 1 v5 accs.length (accs.map Value.bool)) (hk : w5.heap[g3]? = some (.cells #[z0, z1, z2] 25 (0, 0))) (lo : w0.heap.size ≤ g3) : CopP w0 (((w5.setCell ⟨g3, 0, none⟩ (.int .i64 L)).setCell ⟨g3, 1, none⟩ (.slice none 0 0)).setCell ⟨g3, 2, none⟩ v5) g3 L [] (.slice none 0 0) accs v5 := by
  have h0 : w5.cell? ⟨g3, 0, none⟩ = some z0 := by unfold World.cell?; simp [hk]
  have h1 : w5.cell? ⟨g3, 1, none⟩ = some z1 := by unfold World.cell?; simp [hk]
  have h2 : w5.cell? ⟨g3, 2, none⟩ = some z2 := by unfold World.cell?; simp [hk]
  have f1 : w5.frozen? ⟨g3, 1, none⟩ = false := by unfold World.frozen?; simp [hk]
  obtain ⟨c1, k1⟩ := setCell_kind (o := 0) (.int .i64 L) hk
  obtain ⟨c2, k2⟩ := setCell_kind (o := 1) (.slice none 0 0) k1
  obtain ⟨c3, k3⟩ := setCell_kind (o := 2) v5 k2
  have keep : ∀ {wx : World} {p : Addr} {u : Value} {cs : Array Value} {fr : Nat × Nat}, wx.heap[p.block]? = some (.cells cs 25 fr) → wx.ownsRow w0.heap.size 4 1 v5 accs.length (accs.map Value.bool) → (wx.setCell p u).ownsRow w0.heap.size 4 1 v5 accs.length (accs.map Value.bool) := fun hk hx => kept_or hx (setCell_grown _ _ _) (fun q hq e2 => by
    cases hq
    exact own_ne hx hk (by decide) e2)
  exact { bel := ((hb.setCell (p := ⟨g3, 0, none⟩) lo _).setCell (p := ⟨g3, 1, none⟩) lo _).setCell (p := ⟨g3, 2, none⟩) lo _
          N := RowsM.nil _ _
          A := keep k2 (keep k1 (keep hk hA))
          lo := lo
          k := ⟨_, _, k3⟩
          c0 := by go_simp
          c1 := by go_simp
          c2 := by go_simp
          z1 := by go_simp }
theorem src_bools {w : World} {Aa : Option Addr} {accs : List Bool} (h : accs = [] ∨ ∃ b off, Aa = some ⟨b, off, none⟩ ∧ ∀ i, i < accs.length → w.cell? ⟨b, off + i, none⟩ = some (.bool (accs[i]?.getD false))) : accs.length = 0 ∨ ∃ ad, Aa = some ad ∧ ∀ (j : Nat) (u : Value), (accs.map Value.bool)[j]? = some u → w.cell? (ad.add j) = some u := by
  rcases h with rfl | ⟨b, off, rfl, hc⟩
  · exact .inl rfl
  · refine .inr ⟨_, rfl, fun j u hu => ?_⟩
    have hj : j < accs.length := by
      rcases Nat.lt_or_ge j accs.length with h | h
      · exact h
      · rw [List.getElem?_eq_none (by simpa using h)] at hu; cases hu
    have e : (⟨b, off, none⟩ : Addr).add j = ⟨b, off + j, none⟩ := by
      unfold Addr.add; split
      · simp_all
      · rfl
    rw [e, hc j hj, ← hu, List.getElem?_map, List.getElem?_eq_getElem hj]
    simp
theorem bools_one (xs : List Bool) : ∀ u ∈ xs.map Value.bool, u.oneCell' = true := by
  intro u hu
  obtain ⟨x, _, rfl⟩ := List.mem_map.1 hu
  rfl
theorem src_intsM {w : World} {A : Option Addr} {xs : List Int} (h : Ints w A xs) : xs.length = 0 ∨ ∃ ad, A = some ad ∧ ∀ (j : Nat) (u : Value), (xs.map (Value.int .i64))[j]? = some u → w.cell? (ad.add j) = some u := by
  rcases h.at_ with rfl | ⟨b, off, rfl, hc⟩
  · exact .inl rfl
  · refine .inr ⟨_, rfl, fun j u hu => ?_⟩
    have hj : j < xs.length := by
      rcases Nat.lt_or_ge j xs.length with h | h
      · exact h
      · rw [List.getElem?_eq_none (by simpa using h)] at hu; cases hu
    have e : (⟨b, off, none⟩ : Addr).add j = ⟨b, off + j, none⟩ := by
      unfold Addr.add; split
      · simp_all
      · rfl
    rw [e, hc j hj, ← hu, List.getElem?_map, List.getElem?_eq_getElem hj]
    simp
theorem ints_oneM (xs : List Int) : ∀ u ∈ xs.map (Value.int .i64), u.oneCell' = true := by
  intro u hu
  obtain ⟨x, _, rfl⟩ := List.mem_map.1 hu
  rfl
end
section
variable {w0 w : World} {g3 : Nat} {L : Int} {t : List (List Int)} {vN vA : Value} {accs : List Bool}
theorem own_setLow {base : Nat} {e : TypeId} {s : Nat} {v : Value} {n : Nat} {xs : List Value} (h : w.ownsRow base e s v n xs) (p : Addr) (u : Value) (hp : p.block < base) : (w.setCell p u).ownsRow base e s v n xs :=
  kept_or h (setCell_grown _ _ _) (fun q hq e2 => by
    have := (h.lt q (by rw [e2])).1
    have := Option.some.inj hq
    omega)
theorem RowsM.setLow {base : Nat} (h : RowsM w base vN t) (p : Addr) (u : Value) (hp : p.block < base) : RowsM (w.setCell p u) base vN t := by
  obtain ⟨vs, h1, h2⟩ := h
  exact ⟨vs, own_setLow h1 p u hp, fun i hi => by
    obtain ⟨A, c, h3, h4⟩ := h2 i hi
    exact ⟨A, c, h3, own_setLow h4 p u hp⟩⟩
theorem copy_mach {base : Nat} (hN : RowsM w base vN t) (hA : w.ownsRow base 4 1 vA accs.length (accs.map Value.bool)) (hl : t.length ≤ 1000) (hr : ∀ r ∈ t, r.length ≤ 1000 ∧ ∀ x ∈ r, -9223372036854775808 ≤ x ∧ x ≤ 9223372036854775807) (hal : accs.length ≤ 1000) :
    ∃ Na nc Aa ac, vN = .slice Na t.length nc ∧ vA = .slice Aa accs.length ac ∧ MachAt w Na t Aa accs := by
  obtain ⟨Na, nc, hvN, hn1, hn2⟩ := hN.tab hl (fun i hi => by
    have : tRM t i ∈ t := by unfold tRM; rw [List.getElem?_eq_getElem hi]; exact List.getElem_mem hi
    exact hr _ this)
  obtain ⟨Aa, ac, hvA, hAt⟩ : ∃ Aa ac, vA = .slice Aa accs.length ac ∧ (accs = [] ∨ ∃ b off, Aa = some ⟨b, off, none⟩ ∧ ∀ i, i < accs.length → w.cell? ⟨b, off + i, none⟩ = some (.bool (accs[i]?.getD false))) := by
    rcases hA.2 with ⟨hv, hn⟩ | ⟨g, c, cur, hv, _⟩
    · exact ⟨none, 0, by rw [hv, hn], .inl (List.eq_nil_of_length_eq_zero hn)⟩
    · refine ⟨_, c, hv, .inr ⟨g, 0, rfl, fun i hi => ?_⟩⟩
      rw [hv] at hA
      rw [Nat.zero_add, World.ownsRow.cellAt hA _ (by omega), List.getElem?_map, List.getElem?_eq_getElem hi]
      rfl
  exact ⟨Na, nc, Aa, ac, hvN, hvA, ⟨hn1, hn2, by omega, hAt⟩⟩
end
end Go.Proofs.Ytkboeldafppicaa
