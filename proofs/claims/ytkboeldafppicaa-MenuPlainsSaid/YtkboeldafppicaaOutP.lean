/- The memory of a machine that the document makes plain: chapter 3. -/
import Derived.Test.YtkboeldafppicaaLstI
set_option linter.unusedVariables false
namespace Go.Proofs.Ytkboeldafppicaa
open Go.RowKit Go.Maps

def VIo (s : Int) : Value := .int .i64 s
theorem VIo_inj : ∀ s t, VIo s = VIo t → s = t := by
  intro s t h
  simp only [VIo, Value.int.injEq, true_and] at h
  exact h
section
variable {rows : List (List Int)} {vS vN vA : Value} {rv : List Value} {q : Nat}
theorem LFree.appS {v' : Value} {H : Nat} (h : LFree rows vS vN vA rv q) (hl : v'.ownBlock = vS.ownBlock ∨ v'.ownBlock = some H) (hq : q ≠ H) : LFree rows v' vN vA rv q := by
  refine ⟨?_, h.2⟩
  rcases hl with e | e
  · rw [e]; exact h.1
  · rw [e]; intro hh; exact hq (Option.some.inj hh).symm
theorem LFree.appA {v' : Value} {H : Nat} (h : LFree rows vS vN vA rv q) (hl : v'.ownBlock = vA.ownBlock ∨ v'.ownBlock = some H) (hq : q ≠ H) : LFree rows vS vN v' rv q := by
  refine ⟨h.1, h.2.1, ?_, h.2.2.2⟩
  rcases hl with e | e
  · rw [e]; exact h.2.2.1
  · rw [e]; intro hh; exact hq (Option.some.inj hh).symm
theorem LFree.appN {v' r : Value} {xs : List Int} {H : Nat} (h : LFree rows vS vN vA rv q) (hl : v'.ownBlock = vN.ownBlock ∨ v'.ownBlock = some H) (hq : q ≠ H) (hr : r.ownBlock ≠ some q) (hrl : rv.length = rows.length) : LFree (rows ++ [xs]) vS v' vA (rv ++ [r]) q := by
  refine ⟨h.1, ?_, h.2.2.1, fun i hi r' hr' => ?_⟩
  · rcases hl with e | e
    · rw [e]; exact h.2.1
    · rw [e]; intro hh; exact hq (Option.some.inj hh).symm
  · by_cases e : i < rows.length
    · rw [List.getElem?_append_left (by omega)] at hr'
      exact h.2.2.2 i e r' hr'
    · have hi' : i = rows.length := by simp at hi; omega
      rw [hi', ← hrl] at hr'
      simp at hr'
      subst hr'; exact hr
end
structure OutP (w0 w : World) (B g3 gm L : Nat) (sts kd : List Int) (rows : List (List Int)) (accs : List Bool) (vS vN vA : Value) (rv : List Value) : Prop where
  mem : LMem w0 w B 3 1 sts.length (sts.map (Value.int .i64)) rows accs vS vN vA rv
  map : NumMap w 3 gm (numbL VIo kd)
  lg : w0.heap.size ≤ g3 ∧ g3 < w.heap.size
  lm : w0.heap.size ≤ gm
  ne : g3 ≠ gm
  f3 : LFree rows vS vN vA rv g3
  fm : LFree rows vS vN vA rv gm
  c0 : w.cell? ⟨g3, 0, none⟩ = some (.int .i64 (L : Int))
  c1 : w.cell? ⟨g3, 1, none⟩ = some vN
  c2 : w.cell? ⟨g3, 2, none⟩ = some vA
  z1 : w.frozen? ⟨g3, 1, none⟩ = false
  z2 : w.frozen? ⟨g3, 2, none⟩ = false
section
variable {w0 w w' : World} {B g3 gm L : Nat} {sts kd : List Int} {rows : List (List Int)} {accs : List Bool} {vS vN vA : Value} {rv : List Value} {xs : List Int}
theorem OutP.grown (h : OutP w0 w B g3 gm L sts kd rows accs vS vN vA rv) {row : Option Nat} (hg : w.grownBy w' row) (hr : ∀ q, row = some q → w0.heap.size ≤ q ∧ LFree rows vS vN vA rv q ∧ q ≠ g3 ∧ q ≠ gm) : OutP w0 w' B g3 gm L sts kd rows accs vS vN vA rv :=
  have h3 : row ≠ some g3 := fun hh => (hr g3 hh).2.2.1 rfl
  have h4 : row ≠ some gm := fun hh => (hr gm hh).2.2.2 rfl
  { mem := h.mem.grown hg (fun q hq => ⟨(hr q hq).1, (hr q hq).2.1⟩)
    map := h.map.block (hg.block gm h.map.lt (fun hh => h4 hh.symm))
    lg := ⟨h.lg.1, Nat.lt_of_lt_of_le h.lg.2 hg.size⟩
    lm := h.lm
    ne := h.ne
    f3 := h.f3
    fm := h.fm
    c0 := (grown_cell hg (cell_lt h.c0) h3).trans h.c0
    c1 := (grown_cell hg (cell_lt h.c1) h3).trans h.c1
    c2 := (grown_cell hg (cell_lt h.c2) h3).trans h.c2
    z1 := (grown_frozen hg (p := ⟨g3, 1, none⟩) (cell_lt h.c1) h3).trans h.z1
    z2 := (grown_frozen hg (p := ⟨g3, 2, none⟩) (cell_lt h.c2) h3).trans h.z2 }
theorem OutP.below (h : OutP w0 w B g3 gm L sts kd rows accs vS vN vA rv) (hb : Below w.heap.size w w') : OutP w0 w' B g3 gm L sts kd rows accs vS vN vA rv :=
  h.grown (below_grown hb (Nat.le_refl _)) (fun q hq => by cases hq)
/-- The map is written. -/
theorem OutP.put {kd' : List Int} (h : OutP w0 w B g3 gm L sts kd rows accs vS vN vA rv) (hg : w.grownBy w' (some gm)) (hm : NumMap w' 3 gm (numbL VIo kd')) : OutP w0 w' B g3 gm L sts kd' rows accs vS vN vA rv :=
  have h3 : (some gm : Option Nat) ≠ some g3 := fun hh => h.ne (Option.some.inj hh).symm
  { mem := h.mem.grown hg (fun q hq => by cases hq; exact ⟨h.lm, h.fm⟩)
    map := hm
    lg := ⟨h.lg.1, Nat.lt_of_lt_of_le h.lg.2 hg.size⟩
    lm := h.lm
    ne := h.ne
    f3 := h.f3
    fm := h.fm
    c0 := (grown_cell hg (cell_lt h.c0) h3).trans h.c0
    c1 := (grown_cell hg (cell_lt h.c1) h3).trans h.c1
    c2 := (grown_cell hg (cell_lt h.c2) h3).trans h.c2
    z1 := (grown_frozen hg (p := ⟨g3, 1, none⟩) (cell_lt h.c1) h3).trans h.z1
    z2 := (grown_frozen hg (p := ⟨g3, 2, none⟩) (cell_lt h.c2) h3).trans h.z2 }
/-- A state more. -/
theorem OutP.appS {v' : Value} {t : Int} (h : OutP w0 w B g3 gm L sts kd rows accs vS vN vA rv) (hown : w'.ownsRow B 3 1 v' (sts.length + 1) (sts.map (Value.int .i64) ++ [Value.int .i64 t])) (hg : w.grownBy w' vS.ownBlock) (hloc : v'.ownBlock = vS.ownBlock ∨ v'.ownBlock = some w.heap.size) (hsome : v'.ownBlock ≠ none) :
    OutP w0 w' B g3 gm L (sts ++ [t]) kd rows accs v' vN vA rv :=
  have h3 : vS.ownBlock ≠ some g3 := h.f3.1
  have h4 : vS.ownBlock ≠ some gm := h.fm.1
  { mem := by
      have := h.mem.appS hown hg hloc hsome
      rw [List.length_append, List.map_append]
      simpa using this
    map := h.map.block (hg.block gm h.map.lt (fun hh => h4 hh.symm))
    lg := ⟨h.lg.1, Nat.lt_of_lt_of_le h.lg.2 hg.size⟩
    lm := h.lm
    ne := h.ne
    f3 := h.f3.appS hloc (Nat.ne_of_lt h.lg.2)
    fm := h.fm.appS hloc (Nat.ne_of_lt h.map.lt)
    c0 := (grown_cell hg (cell_lt h.c0) h3).trans h.c0
    c1 := (grown_cell hg (cell_lt h.c1) h3).trans h.c1
    c2 := (grown_cell hg (cell_lt h.c2) h3).trans h.c2
    z1 := (grown_frozen hg (p := ⟨g3, 1, none⟩) (cell_lt h.c1) h3).trans h.z1
    z2 := (grown_frozen hg (p := ⟨g3, 2, none⟩) (cell_lt h.c2) h3).trans h.z2 }
/-- A row more, written into the box. -/
theorem OutP.pushN {v' r : Value} (h : OutP w0 w B g3 gm L sts kd rows accs vS vN vA rv) (hown : w'.ownsRow B 26 1 v' (rows.length + 1) (rv ++ [r])) (hg : w.grownBy w' vN.ownBlock) (hloc : v'.ownBlock = vN.ownBlock ∨ v'.ownBlock = some w.heap.size)
    (hr : w.ownsRow B 3 1 r xs.length (xs.map (Value.int .i64))) (hform : ∃ g c, r = .slice (some ⟨g, 0, none⟩) xs.length c ∧ LFree rows vS vN vA rv g) (hr3 : r.ownBlock ≠ some g3) (hrm : r.ownBlock ≠ some gm) (hS : vS.ownBlock ≠ none) :
    OutP w0 (w'.setCell ⟨g3, 1, none⟩ v') B g3 gm L sts kd (rows ++ [xs]) accs vS v' vA (rv ++ [r]) :=
  have h3 : vN.ownBlock ≠ some g3 := h.f3.2.1
  have h4 : vN.ownBlock ≠ some gm := h.fm.2.1
  have hrl : rv.length = rows.length := by simpa using h.mem.N.1
  have hm := h.mem.appN hown hg hloc hr hform hS
  have k3 := h.f3.appN (xs := xs) hloc (Nat.ne_of_lt h.lg.2) hr3 hrl
  have km := h.fm.appN (xs := xs) hloc (Nat.ne_of_lt h.map.lt) hrm hrl
  have hc0 := (grown_cell hg (cell_lt h.c0) h3).trans h.c0
  have hc1 := (grown_cell hg (cell_lt h.c1) h3).trans h.c1
  have hc2 := (grown_cell hg (cell_lt h.c2) h3).trans h.c2
  have hf1 := (grown_frozen hg (p := ⟨g3, 1, none⟩) (cell_lt h.c1) h3).trans h.z1
  have hf2 := (grown_frozen hg (p := ⟨g3, 2, none⟩) (cell_lt h.c2) h3).trans h.z2
  { mem := hm.setCell ⟨g3, 1, none⟩ v' h.lg.1 k3
    map := (h.map.block (hg.block gm h.map.lt (fun hh => h4 hh.symm))).setCell _ _ (fun hh => h.ne hh.symm)
    lg := ⟨h.lg.1, by simp; exact Nat.lt_of_lt_of_le h.lg.2 hg.size⟩
    lm := h.lm
    ne := h.ne
    f3 := k3
    fm := km
    c0 := by rw [World.cell?_setCell_other _ _ _ _ (by simp)]; exact hc0
    c1 := World.cell?_setCell_same _ _ _ hc1
    c2 := by rw [World.cell?_setCell_other _ _ _ _ (by simp)]; exact hc2
    z1 := by rw [World.frozen?_setCell]; exact hf1
    z2 := by rw [World.frozen?_setCell]; exact hf2 }
/-- An acceptance more, written into the box. -/
theorem OutP.pushA {v' : Value} {b : Bool} (h : OutP w0 w B g3 gm L sts kd rows accs vS vN vA rv) (hown : w'.ownsRow B 4 1 v' (accs.length + 1) (accs.map Value.bool ++ [Value.bool b])) (hg : w.grownBy w' vA.ownBlock) (hloc : v'.ownBlock = vA.ownBlock ∨ v'.ownBlock = some w.heap.size) :
    OutP w0 (w'.setCell ⟨g3, 2, none⟩ v') B g3 gm L sts kd rows (accs ++ [b]) vS vN v' rv :=
  have h3 : vA.ownBlock ≠ some g3 := h.f3.2.2.1
  have h4 : vA.ownBlock ≠ some gm := h.fm.2.2.1
  have hm := h.mem.appA hown hg hloc
  have k3 := h.f3.appA hloc (Nat.ne_of_lt h.lg.2)
  have km := h.fm.appA hloc (Nat.ne_of_lt h.map.lt)
  have hc0 := (grown_cell hg (cell_lt h.c0) h3).trans h.c0
  have hc1 := (grown_cell hg (cell_lt h.c1) h3).trans h.c1
  have hc2 := (grown_cell hg (cell_lt h.c2) h3).trans h.c2
  have hf1 := (grown_frozen hg (p := ⟨g3, 1, none⟩) (cell_lt h.c1) h3).trans h.z1
  have hf2 := (grown_frozen hg (p := ⟨g3, 2, none⟩) (cell_lt h.c2) h3).trans h.z2
  { mem := hm.setCell ⟨g3, 2, none⟩ v' h.lg.1 k3
    map := (h.map.block (hg.block gm h.map.lt (fun hh => h4 hh.symm))).setCell _ _ (fun hh => h.ne hh.symm)
    lg := ⟨h.lg.1, by simp; exact Nat.lt_of_lt_of_le h.lg.2 hg.size⟩
    lm := h.lm
    ne := h.ne
    f3 := k3
    fm := km
    c0 := by rw [World.cell?_setCell_other _ _ _ _ (by simp)]; exact hc0
    c1 := by rw [World.cell?_setCell_other _ _ _ _ (by simp)]; exact hc1
    c2 := World.cell?_setCell_same _ _ _ hc2
    z1 := by rw [World.frozen?_setCell]; exact hf1
    z2 := by rw [World.frozen?_setCell]; exact hf2 }
/-- A row that is appended to. -/
structure RowQ (w : World) (B g3 gm : Nat) (r : Value) (xs : List Int) (rows : List (List Int)) (vS vN vA : Value) (rv : List Value) : Prop where
  own : w.ownsRow B 3 1 r xs.length (xs.map (Value.int .i64))
  free : ∀ q, r.ownBlock = some q → LFree rows vS vN vA rv q ∧ q ≠ g3 ∧ q ≠ gm
theorem RowQ.nil (w : World) (B g3 gm : Nat) (rows : List (List Int)) (vS vN vA : Value) (rv : List Value) : RowQ w B g3 gm (.slice none 0 0) [] rows vS vN vA rv := ⟨⟨rfl, .inl ⟨rfl, rfl⟩⟩, fun q hq => by cases hq⟩
theorem RowQ.grown {r : Value} (h : RowQ w B g3 gm r xs rows vS vN vA rv) {row : Option Nat} (hg : w.grownBy w' row) (hne : ∀ q, row = some q → r.ownBlock ≠ some q) : RowQ w' B g3 gm r xs rows vS vN vA rv := ⟨kept_or h.own hg hne, h.free⟩
theorem RowQ.below {r : Value} (h : RowQ w B g3 gm r xs rows vS vN vA rv) (hb : Below w.heap.size w w') : RowQ w' B g3 gm r xs rows vS vN vA rv := h.grown (below_grown hb (Nat.le_refl _)) (fun q hq => by cases hq)
/-- The states grow. -/
theorem RowQ.appS {r v' : Value} (h : RowQ w B g3 gm r xs rows vS vN vA rv) (hg : w.grownBy w' vS.ownBlock) (hloc : v'.ownBlock = vS.ownBlock ∨ v'.ownBlock = some w.heap.size) : RowQ w' B g3 gm r xs rows v' vN vA rv :=
  ⟨(h.grown hg (fun q hq hh => (h.free q hh).1.1 hq)).own, fun q hq => ⟨(h.free q hq).1.appS hloc (Nat.ne_of_lt (h.own.lt q hq).2), (h.free q hq).2⟩⟩
/-- The row grows. -/
theorem RowQ.app {r r' : Value} {x : Int} (ho : OutP w0 w B g3 gm L sts kd rows accs vS vN vA rv) (h : RowQ w B g3 gm r xs rows vS vN vA rv) (hown : w'.ownsRow B 3 1 r' (xs.length + 1) (xs.map (Value.int .i64) ++ [Value.int .i64 x])) (hg : w.grownBy w' r.ownBlock) (hloc : r'.ownBlock = r.ownBlock ∨ r'.ownBlock = some w.heap.size) :
    RowQ w' B g3 gm r' (xs ++ [x]) rows vS vN vA rv ∧ OutP w0 w' B g3 gm L sts kd rows accs vS vN vA rv := by
  refine ⟨⟨by rw [List.length_append, List.map_append]; simpa using hown, fun q hq => ?_⟩, ho.grown hg (fun q hq => ⟨by have := (h.own.lt q hq).1; have := ho.mem.hB; omega, (h.free q hq).1, (h.free q hq).2⟩)⟩
  rcases hloc with e | e
  · exact h.free q (by rw [← e]; exact hq)
  · rw [e] at hq
    obtain rfl := Option.some.inj hq
    exact ⟨ho.mem.new _ (Nat.le_refl _), Nat.ne_of_gt ho.lg.2, Nat.ne_of_gt ho.map.lt⟩
end
end Go.Proofs.Ytkboeldafppicaa
