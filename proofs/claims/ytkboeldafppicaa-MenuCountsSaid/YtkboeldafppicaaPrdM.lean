/- The document's machine of pairs of states: its memory and its language. -/
import Derived.Test.YtkboeldafppicaaRWalk
import Derived.Test.YtkboeldafppicaaRPlain
set_option linter.unusedVariables false
namespace Go.Proofs.Ytkboeldafppicaa
open Go.RowKit Go.Maps

structure OutX (w0 w : World) (B g3 gm L : Nat) (K : TypeId) (ml : List (Value × Int)) (e : TypeId) (sz ns : Nat) (sc : List Value) (rows : List (List Int)) (accs : List Bool) (vS vN vA : Value) (rv : List Value) : Prop where
  mem : LMem w0 w B e sz ns sc rows accs vS vN vA rv
  map : NumMap w K gm ml
  lg : w0.heap.size ≤ g3 ∧ g3 < w.heap.size
  lm : w0.heap.size ≤ gm
  ne : g3 ≠ gm
  f3 : LFree rows vS vN vA rv g3
  fm : LFree rows vS vN vA rv gm
  c0 : w.cell? ⟨g3, 0, none⟩ = some (.int .i64 (L : Int))
  c1 : w.cell? ⟨g3, 1, none⟩ = some vN
  c2 : w.cell? ⟨g3, 2, none⟩ = some vA
  z1 : w.frozen? ⟨g3, 1, none⟩ = false
  z2 : w.frozen? ⟨g3, 2, none⟩ = false
section
variable {w0 w w' : World} {B g3 gm L : Nat} {K : TypeId} {ml : List (Value × Int)} {e : TypeId} {sz ns : Nat} {sc : List Value} {rows : List (List Int)} {accs : List Bool} {vS vN vA : Value} {rv : List Value} {xs : List Int}
theorem OutX.grown (h : OutX w0 w B g3 gm L K ml e sz ns sc rows accs vS vN vA rv) {row : Option Nat} (hg : w.grownBy w' row) (hr : ∀ q, row = some q → w0.heap.size ≤ q ∧ LFree rows vS vN vA rv q ∧ q ≠ g3 ∧ q ≠ gm) : OutX w0 w' B g3 gm L K ml e sz ns sc rows accs vS vN vA rv :=
  have h3 : row ≠ some g3 := fun hh => (hr g3 hh).2.2.1 rfl
  have h4 : row ≠ some gm := fun hh => (hr gm hh).2.2.2 rfl
  { mem := h.mem.grown hg (fun q hq => ⟨(hr q hq).1, (hr q hq).2.1⟩)
    map := h.map.block (hg.block gm h.map.lt (fun hh => h4 hh.symm))
    lg := ⟨h.lg.1, Nat.lt_of_lt_of_le h.lg.2 hg.size⟩
    lm := h.lm
    ne := h.ne
    f3 := h.f3
    fm := h.fm
    c0 := (grown_cell hg (cell_lt h.c0) h3).trans h.c0
    c1 := (grown_cell hg (cell_lt h.c1) h3).trans h.c1
    c2 := (grown_cell hg (cell_lt h.c2) h3).trans h.c2
    z1 := (grown_frozen hg (p := ⟨g3, 1, none⟩) (cell_lt h.c1) h3).trans h.z1
    z2 := (grown_frozen hg (p := ⟨g3, 2, none⟩) (cell_lt h.c2) h3).trans h.z2 }
theorem OutX.below (h : OutX w0 w B g3 gm L K ml e sz ns sc rows accs vS vN vA rv) (hb : Below w.heap.size w w') : OutX w0 w' B g3 gm L K ml e sz ns sc rows accs vS vN vA rv :=
  h.grown (below_grown hb (Nat.le_refl _)) (fun q hq => by cases hq)
/-- A row more, written into the box. -/
theorem OutX.pushN {v' r : Value} (h : OutX w0 w B g3 gm L K ml e sz ns sc rows accs vS vN vA rv) (hown : w'.ownsRow B 26 1 v' (rows.length + 1) (rv ++ [r])) (hg : w.grownBy w' vN.ownBlock) (hloc : v'.ownBlock = vN.ownBlock ∨ v'.ownBlock = some w.heap.size)
    (hr : w.ownsRow B 3 1 r xs.length (xs.map (Value.int .i64))) (hform : ∃ g c, r = .slice (some ⟨g, 0, none⟩) xs.length c ∧ LFree rows vS vN vA rv g) (hr3 : r.ownBlock ≠ some g3) (hrm : r.ownBlock ≠ some gm) (hS : vS.ownBlock ≠ none) :
    OutX w0 (w'.setCell ⟨g3, 1, none⟩ v') B g3 gm L K ml e sz ns sc (rows ++ [xs]) accs vS v' vA (rv ++ [r]) :=
  have h3 : vN.ownBlock ≠ some g3 := h.f3.2.1
  have h4 : vN.ownBlock ≠ some gm := h.fm.2.1
  have hrl : rv.length = rows.length := by simpa using h.mem.N.1
  have hm := h.mem.appN hown hg hloc hr hform hS
  have k3 := h.f3.appN (xs := xs) hloc (Nat.ne_of_lt h.lg.2) hr3 hrl
  have km := h.fm.appN (xs := xs) hloc (Nat.ne_of_lt h.map.lt) hrm hrl
  have hc0 := (grown_cell hg (cell_lt h.c0) h3).trans h.c0
  have hc1 := (grown_cell hg (cell_lt h.c1) h3).trans h.c1
  have hc2 := (grown_cell hg (cell_lt h.c2) h3).trans h.c2
  have hf1 := (grown_frozen hg (p := ⟨g3, 1, none⟩) (cell_lt h.c1) h3).trans h.z1
  have hf2 := (grown_frozen hg (p := ⟨g3, 2, none⟩) (cell_lt h.c2) h3).trans h.z2
  { mem := hm.setCell ⟨g3, 1, none⟩ v' h.lg.1 k3
    map := (h.map.block (hg.block gm h.map.lt (fun hh => h4 hh.symm))).setCell _ _ (fun hh => h.ne hh.symm)
    lg := ⟨h.lg.1, by simp; exact Nat.lt_of_lt_of_le h.lg.2 hg.size⟩
    lm := h.lm
    ne := h.ne
    f3 := k3
    fm := km
    c0 := by rw [World.cell?_setCell_other _ _ _ _ (by simp)]; exact hc0
    c1 := World.cell?_setCell_same _ _ _ hc1
    c2 := by rw [World.cell?_setCell_other _ _ _ _ (by simp)]; exact hc2
    z1 := by rw [World.frozen?_setCell]; exact hf1
    z2 := by rw [World.frozen?_setCell]; exact hf2 }
/-- An acceptance more, written into the box. -/
theorem OutX.pushA {v' : Value} {b : Bool} (h : OutX w0 w B g3 gm L K ml e sz ns sc rows accs vS vN vA rv) (hown : w'.ownsRow B 4 1 v' (accs.length + 1) (accs.map Value.bool ++ [Value.bool b])) (hg : w.grownBy w' vA.ownBlock) (hloc : v'.ownBlock = vA.ownBlock ∨ v'.ownBlock = some w.heap.size) :
    OutX w0 (w'.setCell ⟨g3, 2, none⟩ v') B g3 gm L K ml e sz ns sc rows (accs ++ [b]) vS vN v' rv :=
  have h3 : vA.ownBlock ≠ some g3 := h.f3.2.2.1
  have h4 : vA.ownBlock ≠ some gm := h.fm.2.2.1
  have hm := h.mem.appA hown hg hloc
  have k3 := h.f3.appA hloc (Nat.ne_of_lt h.lg.2)
  have km := h.fm.appA hloc (Nat.ne_of_lt h.map.lt)
  have hc0 := (grown_cell hg (cell_lt h.c0) h3).trans h.c0
  have hc1 := (grown_cell hg (cell_lt h.c1) h3).trans h.c1
  have hc2 := (grown_cell hg (cell_lt h.c2) h3).trans h.c2
  have hf1 := (grown_frozen hg (p := ⟨g3, 1, none⟩) (cell_lt h.c1) h3).trans h.z1
  have hf2 := (grown_frozen hg (p := ⟨g3, 2, none⟩) (cell_lt h.c2) h3).trans h.z2
  { mem := hm.setCell ⟨g3, 2, none⟩ v' h.lg.1 k3
    map := (h.map.block (hg.block gm h.map.lt (fun hh => h4 hh.symm))).setCell _ _ (fun hh => h.ne hh.symm)
    lg := ⟨h.lg.1, by simp; exact Nat.lt_of_lt_of_le h.lg.2 hg.size⟩
    lm := h.lm
    ne := h.ne
    f3 := k3
    fm := km
    c0 := by rw [World.cell?_setCell_other _ _ _ _ (by simp)]; exact hc0
    c1 := by rw [World.cell?_setCell_other _ _ _ _ (by simp)]; exact hc1
    c2 := World.cell?_setCell_same _ _ _ hc2
    z1 := by rw [World.frozen?_setCell]; exact hf1
    z2 := by rw [World.frozen?_setCell]; exact hf2 }
/-- The row grows. -/
theorem RowQ.appX {r r' : Value} {x : Int} (ho : OutX w0 w B g3 gm L K ml e sz ns sc rows accs vS vN vA rv) (h : RowQ w B g3 gm r xs rows vS vN vA rv) (hown : w'.ownsRow B 3 1 r' (xs.length + 1) (xs.map (Value.int .i64) ++ [Value.int .i64 x])) (hg : w.grownBy w' r.ownBlock) (hloc : r'.ownBlock = r.ownBlock ∨ r'.ownBlock = some w.heap.size) :
    RowQ w' B g3 gm r' (xs ++ [x]) rows vS vN vA rv ∧ OutX w0 w' B g3 gm L K ml e sz ns sc rows accs vS vN vA rv := by
  refine ⟨⟨by rw [List.length_append, List.map_append]; simpa using hown, fun q hq => ?_⟩, ho.grown hg (fun q hq => ⟨by have := (h.own.lt q hq).1; have := ho.mem.hB; omega, (h.free q hq).1, (h.free q hq).2⟩)⟩
  rcases hloc with e9 | e9
  · exact h.free q (by rw [← e9]; exact hq)
  · rw [e9] at hq
    obtain rfl := Option.some.inj hq
    exact ⟨ho.mem.new _ (Nat.le_refl _), Nat.ne_of_gt ho.lg.2, Nat.ne_of_gt ho.map.lt⟩
end
theorem nodup_at {S : Type} {l : List S} (h : l.Nodup) {i j : Nat} {s : S} (hi : l[i]? = some s) (hj : l[j]? = some s) : i = j := by
  obtain ⟨i1, i2⟩ := List.getElem?_eq_some_iff.1 hi
  obtain ⟨j1, j2⟩ := List.getElem?_eq_some_iff.1 hj
  have hp := List.pairwise_iff_getElem.1 h
  rcases Nat.lt_trichotomy i j with g | g | g
  · exact absurd (i2.trans j2.symm) (hp i j i1 j1 g)
  · exact g
  · exact absurd (j2.trans i2.symm) (hp j i j1 i1 g)
/-- What lies in cells does not lie in a map. -/
theorem own_not_map {w : World} {base : Nat} {e K : TypeId} {s : Nat} {v : Value} {n : Nat} {xs : List Value} {g : Nat} {l : List (Value × Int)} (h : w.ownsRow base e s v n xs) (hm : NumMap w K g l) : v.ownBlock ≠ some g := by
  intro e2
  obtain ⟨D, ⟨es, clock, hh, _⟩, _⟩ := hm
  rcases h.2 with ⟨hv, _⟩ | ⟨g', cap', cur', hv, _, hh', _⟩
  · rw [hv] at e2; simp [Value.ownBlock] at e2
  · rw [hv] at e2
    simp only [Value.ownBlock, Option.some.injEq] at e2
    subst e2
    rw [hh] at hh'
    simp at hh'
theorem OutW.mapped {w w' : World} {base : Nat} {v : Value} {sts : List Two} {wds : List (List Int)} {K : TypeId} {g : Nat} {l : List (Value × Int)} (h : OutW w base v sts wds) (hm : NumMap w K g l) (hg : w.grownBy w' (some g)) : OutW w' base v sts wds := by
  obtain ⟨vals, h1, h2, h3⟩ := h.out
  have keep : ∀ {e : TypeId} {s : Nat} {u : Value} {n : Nat} {xs : List Value}, w.ownsRow base e s u n xs → w'.ownsRow base e s u n xs := fun hx => kept_or hx hg (fun q hq e2 => by
    cases hq
    exact own_not_map hx hm e2)
  refine ⟨⟨vals, keep h1, h2, fun i hi => ?_⟩, h.len⟩
  obtain ⟨A, c, h4, h5⟩ := h3 i hi
  exact ⟨A, c, h4, keep h5⟩
theorem exists_ix {S : Type} [DecidableEq S] (l : List S) : ∃ ix : S → Nat, ∀ s ∈ l, ix s < l.length ∧ l[ix s]? = some s := ⟨l.idxOf, fun s h => idxOf_get h⟩
/-- The rows of the machine of pairs; its acceptances. -/
def prRow (L : Nat) (ra rb : List (List Int)) (ix : Two → Nat) (s : Two) (c : Nat) : List Int := (List.range c).map (fun c => (ix (tw ra rb s c) : Int))
def prRows (L : Nat) (ra rb : List (List Int)) (ix : Two → Nat) (l : List Two) : List (List Int) := l.map (fun s => prRow L ra rb ix s L)
theorem prRow_succ (L : Nat) (ra rb : List (List Int)) (ix : Two → Nat) (s : Two) (c : Nat) : prRow L ra rb ix s (c + 1) = prRow L ra rb ix s c ++ [(ix (tw ra rb s c) : Int)] := by
  unfold prRow; rw [List.range_succ, List.map_append]; rfl
theorem prRow_len (L : Nat) (ra rb : List (List Int)) (ix : Two → Nat) (s : Two) (c : Nat) : (prRow L ra rb ix s c).length = c := by unfold prRow; simp
section
variable {L : Nat} {ra rb : List (List Int)} {ix : Two → Nat} {sts : List Two} {op : Two → Bool}
theorem prRows_mN (hcl : ∀ s ∈ sts, ∀ c, c < L → tw ra rb s c ∈ sts) (i c : Nat) (s : Two) (hs : sts[i]? = some s) (hc : c < L) : mN (prRows L ra rb ix sts) i c = ix (tw ra rb s c) := by
  unfold mN prRows prRow
  rw [List.getElem?_map, hs]
  simp [hc]
theorem prod_good (hL1 : 1 ≤ L) (hL : L ≤ 6) (hpos : 0 < sts.length) (hix : ∀ s ∈ sts, ix s < sts.length ∧ sts[ix s]? = some s) (hcl : ∀ s ∈ sts, ∀ c, c < L → tw ra rb s c ∈ sts) : GoodM L (prRows L ra rb ix sts) (sts.map op) := by
  have hl : (prRows L ra rb ix sts).length = sts.length := by unfold prRows; simp
  refine ⟨hL1, hL, by rw [hl]; exact hpos, by rw [hl]; simp, fun i hi => ?_, fun i c hi hc => ?_⟩
  · rw [hl] at hi
    have hs : sts[i]? = some sts[i] := List.getElem?_eq_getElem hi
    unfold prRows
    rw [List.getElem?_map, hs]
    exact prRow_len L ra rb ix _ L
  · rw [hl] at hi ⊢
    have hs : sts[i]? = some sts[i] := List.getElem?_eq_getElem hi
    have hm := prRows_mN (ix := ix) hcl i c _ hs hc
    have hx := (hix _ (hcl _ (List.getElem_mem hi) c hc)).1
    refine ⟨by rw [hm]; exact hx, ?_⟩
    rw [hm]
    unfold prRows prRow
    rw [List.getElem?_map, hs]
    simp [hc]
theorem prod_lang (h0 : sts[0]? = some (0, 0)) (hix : ∀ s ∈ sts, ix s < sts.length ∧ sts[ix s]? = some s) (hcl : ∀ s ∈ sts, ∀ c, c < L → tw ra rb s c ∈ sts) : mLang L (prRows L ra rb ix sts) (sts.map op) 0 = langOf L (tw ra rb) op (0, 0) := by
  unfold mLang
  refine langOf_rel (R := fun i s => sts[i]? = some s) L _ _ _ _ (fun i s c h hc => ?_) (fun i s h => ?_) _ _ h0
  · rw [prRows_mN hcl i c s h hc]
    exact (hix _ (hcl s (List.mem_of_getElem? h) c hc)).2
  · unfold mA
    rw [List.getElem?_map, h]; rfl
/-- The listing of pairs, when it is full: it has the first pair first, and is closed. -/
theorem walk_full {acc : Two → Bool} {i : Nat} (h : Full L (tw ra rb) acc (0, 0) i) : (listTo L (tw ra rb) acc (0, 0) i).1.length = i ∧ (listTo L (tw ra rb) acc (0, 0) i).1[0]? = some (0, 0) ∧ ∀ s ∈ (listTo L (tw ra rb) acc (0, 0) i).1, ∀ c, c < L → tw ra rb s c ∈ (listTo L (tw ra rb) acc (0, 0) i).1 :=
  ⟨h.1.symm, listTo_first L _ _ _ _, (full_closed h.1 h.2).2⟩
/-- What a number map of the pairs answers. -/
theorem pairs_num {sts : List Two} (hn : sts.Nodup) (hix : ∀ s ∈ sts, ix s < sts.length ∧ sts[ix s]? = some s) (s : Two) (hs : s ∈ sts) : (V2 s, (ix s : Int)) ∈ numbL V2 sts := (numbL_mem V2 V2_inj _ _ _).2 ⟨ix s, rfl, (hix s hs).2⟩
end
end Go.Proofs.Ytkboeldafppicaa
