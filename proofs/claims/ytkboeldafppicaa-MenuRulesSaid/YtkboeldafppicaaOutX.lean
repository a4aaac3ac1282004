/- The memory of a machine being made beside a list of states and a map: OutX. -/
import Derived.Test.YtkboeldafppicaaRPlain
set_option linter.unusedVariables false
namespace Go.Proofs.Ytkboeldafppicaa
open Go.RowKit Go.Maps

structure OutX (w0 w : World) (B g3 gm L : Nat) (K : TypeId) (ml : List (Value × Int)) (e : TypeId) (sz ns : Nat) (sc : List Value) (rows : List (List Int)) (accs : List Bool) (vS vN vA : Value) (rv : List Value) : Prop where
  mem : LMem w0 w B e sz ns sc rows accs vS vN vA rv
  map : NumMap w K gm ml
  lg : w0.heap.size ≤ g3 ∧ g3 < w.heap.size
  lm : w0.heap.size ≤ gm
  ne : g3 ≠ gm
  f3 : LFree rows vS vN vA rv g3
  fm : LFree rows vS vN vA rv gm
  c0 : w.cell? ⟨g3, 0, none⟩ = some (.int .i64 (L : Int))
  c1 : w.cell? ⟨g3, 1, none⟩ = some vN
  c2 : w.cell? ⟨g3, 2, none⟩ = some vA
  z1 : w.frozen? ⟨g3, 1, none⟩ = false
  z2 : w.frozen? ⟨g3, 2, none⟩ = false
section
variable {w0 w w' : World} {B g3 gm L : Nat} {K : TypeId} {ml : List (Value × Int)} {e : TypeId} {sz ns : Nat} {sc : List Value} {rows : List (List Int)} {accs : List Bool} {vS vN vA : Value} {rv : List Value} {xs : List Int}
theorem OutX.grown (h : OutX w0 w B g3 gm L K ml e sz ns sc rows accs vS vN vA rv) {row : Option Nat} (hg : w.grownBy w' row) (hr : ∀ q, row = some q → w0.heap.size ≤ q ∧ LFree rows vS vN vA rv q ∧ q ≠ g3 ∧ q ≠ gm) : OutX w0 w' B g3 gm L K ml e sz ns sc rows accs vS vN vA rv :=
  have h3 : row ≠ some g3 := fun hh => (hr g3 hh).2.2.1 rfl
  have h4 : row ≠ some gm := fun hh => (hr gm hh).2.2.2 rfl
  { mem := h.mem.grown hg (fun q hq => ⟨(hr q hq).1, (hr q hq).2.1⟩)
    map := h.map.block (hg.block gm h.map.lt (fun hh => h4 hh.symm))
    lg := ⟨h.lg.1, Nat.lt_of_lt_of_le h.lg.2 hg.size⟩
    lm := h.lm
    ne := h.ne
    f3 := h.f3
    fm := h.fm
    c0 := (grown_cell hg (cell_lt h.c0) h3).trans h.c0
    c1 := (grown_cell hg (cell_lt h.c1) h3).trans h.c1
    c2 := (grown_cell hg (cell_lt h.c2) h3).trans h.c2
    z1 := (grown_frozen hg (p := ⟨g3, 1, none⟩) (cell_lt h.c1) h3).trans h.z1
    z2 := (grown_frozen hg (p := ⟨g3, 2, none⟩) (cell_lt h.c2) h3).trans h.z2 }
theorem OutX.below (h : OutX w0 w B g3 gm L K ml e sz ns sc rows accs vS vN vA rv) (hb : Below w.heap.size w w') : OutX w0 w' B g3 gm L K ml e sz ns sc rows accs vS vN vA rv :=
  h.grown (below_grown hb (Nat.le_refl _)) (fun q hq => by cases hq)
/-- A row more, written into the box. -/
theorem OutX.pushN {v' r : Value} (h : OutX w0 w B g3 gm L K ml e sz ns sc rows accs vS vN vA rv) (hown : w'.ownsRow B 26 1 v' (rows.length + 1) (rv ++ [r])) (hg : w.grownBy w' vN.ownBlock) (hloc : v'.ownBlock = vN.ownBlock ∨ v'.ownBlock = some w.heap.size)
    (hr : w.ownsRow B 3 1 r xs.length (xs.map (Value.int .i64))) (hform : ∃ g c, r = .slice (some ⟨g, 0, none⟩) xs.length c ∧ LFree rows vS vN vA rv g) (hr3 : r.ownBlock ≠ some g3) (hrm : r.ownBlock ≠ some gm) (hS : vS.ownBlock ≠ none) :
    OutX w0 (w'.setCell ⟨g3, 1, none⟩ v') B g3 gm L K ml e sz ns sc (rows ++ [xs]) accs vS v' vA (rv ++ [r]) :=
  have h3 : vN.ownBlock ≠ some g3 := h.f3.2.1
  have h4 : vN.ownBlock ≠ some gm := h.fm.2.1
  have hrl : rv.length = rows.length := by simpa using h.mem.N.1
  have hm := h.mem.appN hown hg hloc hr hform hS
  have k3 := h.f3.appN (xs := xs) hloc (Nat.ne_of_lt h.lg.2) hr3 hrl
  have km := h.fm.appN (xs := xs) hloc (Nat.ne_of_lt h.map.lt) hrm hrl
  have hc0 := (grown_cell hg (cell_lt h.c0) h3).trans h.c0
  have hc1 := (grown_cell hg (cell_lt h.c1) h3).trans h.c1
  have hc2 := (grown_cell hg (cell_lt h.c2) h3).trans h.c2
  have hf1 := (grown_frozen hg (p := ⟨g3, 1, none⟩) (cell_lt h.c1) h3).trans h.z1
  have hf2 := (grown_frozen hg (p := ⟨g3, 2, none⟩) (cell_lt h.c2) h3).trans h.z2
  { mem := hm.setCell ⟨g3, 1, none⟩ v' h.lg.1 k3
    map := (h.map.block (hg.block gm h.map.lt (fun hh => h4 hh.symm))).setCell _ _ (fun hh => h.ne hh.symm)
    lg := ⟨h.lg.1, by simp; exact Nat.lt_of_lt_of_le h.lg.2 hg.size⟩
    lm := h.lm
    ne := h.ne
    f3 := k3
    fm := km
    c0 := by rw [World.cell?_setCell_other _ _ _ _ (by simp)]; exact hc0
    c1 := World.cell?_setCell_same _ _ _ hc1
    c2 := by rw [World.cell?_setCell_other _ _ _ _ (by simp)]; exact hc2
    z1 := by rw [World.frozen?_setCell]; exact hf1
    z2 := by rw [World.frozen?_setCell]; exact hf2 }
/-- An acceptance more, written into the box. -/
theorem OutX.pushA {v' : Value} {b : Bool} (h : OutX w0 w B g3 gm L K ml e sz ns sc rows accs vS vN vA rv) (hown : w'.ownsRow B 4 1 v' (accs.length + 1) (accs.map Value.bool ++ [Value.bool b])) (hg : w.grownBy w' vA.ownBlock) (hloc : v'.ownBlock = vA.ownBlock ∨ v'.ownBlock = some w.heap.size) :
    OutX w0 (w'.setCell ⟨g3, 2, none⟩ v') B g3 gm L K ml e sz ns sc rows (accs ++ [b]) vS vN v' rv :=
  have h3 : vA.ownBlock ≠ some g3 := h.f3.2.2.1
  have h4 : vA.ownBlock ≠ some gm := h.fm.2.2.1
  have hm := h.mem.appA hown hg hloc
  have k3 := h.f3.appA hloc (Nat.ne_of_lt h.lg.2)
  have km := h.fm.appA hloc (Nat.ne_of_lt h.map.lt)
  have hc0 := (grown_cell hg (cell_lt h.c0) h3).trans h.c0
  have hc1 := (grown_cell hg (cell_lt h.c1) h3).trans h.c1
  have hc2 := (grown_cell hg (cell_lt h.c2) h3).trans h.c2
  have hf1 := (grown_frozen hg (p := ⟨g3, 1, none⟩) (cell_lt h.c1) h3).trans h.z1
  have hf2 := (grown_frozen hg (p := ⟨g3, 2, none⟩) (cell_lt h.c2) h3).trans h.z2
  { mem := hm.setCell ⟨g3, 2, none⟩ v' h.lg.1 k3
    map := (h.map.block (hg.block gm h.map.lt (fun hh => h4 hh.symm))).setCell _ _ (fun hh => h.ne hh.symm)
    lg := ⟨h.lg.1, by simp; exact Nat.lt_of_lt_of_le h.lg.2 hg.size⟩
    lm := h.lm
    ne := h.ne
    f3 := k3
    fm := km
    c0 := by rw [World.cell?_setCell_other _ _ _ _ (by simp)]; exact hc0
    c1 := by rw [World.cell?_setCell_other _ _ _ _ (by simp)]; exact hc1
    c2 := World.cell?_setCell_same _ _ _ hc2
    z1 := by rw [World.frozen?_setCell]; exact hf1
    z2 := by rw [World.frozen?_setCell]; exact hf2 }
/-- The row grows. -/
theorem RowQ.appX {r r' : Value} {x : Int} (ho : OutX w0 w B g3 gm L K ml e sz ns sc rows accs vS vN vA rv) (h : RowQ w B g3 gm r xs rows vS vN vA rv) (hown : w'.ownsRow B 3 1 r' (xs.length + 1) (xs.map (Value.int .i64) ++ [Value.int .i64 x])) (hg : w.grownBy w' r.ownBlock) (hloc : r'.ownBlock = r.ownBlock ∨ r'.ownBlock = some w.heap.size) :
    RowQ w' B g3 gm r' (xs ++ [x]) rows vS vN vA rv ∧ OutX w0 w' B g3 gm L K ml e sz ns sc rows accs vS vN vA rv := by
  refine ⟨⟨by rw [List.length_append, List.map_append]; simpa using hown, fun q hq => ?_⟩, ho.grown hg (fun q hq => ⟨by have := (h.own.lt q hq).1; have := ho.mem.hB; omega, (h.free q hq).1, (h.free q hq).2⟩)⟩
  rcases hloc with e9 | e9
  · exact h.free q (by rw [← e9]; exact hq)
  · rw [e9] at hq
    obtain rfl := Option.some.inj hq
    exact ⟨ho.mem.new _ (Nat.le_refl _), Nat.ne_of_gt ho.lg.2, Nat.ne_of_gt ho.map.lt⟩
end
end Go.Proofs.Ytkboeldafppicaa
