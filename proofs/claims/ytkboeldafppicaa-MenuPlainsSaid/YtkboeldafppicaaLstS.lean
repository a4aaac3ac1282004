/- The memory of a machine that is being listed: with its map and its box. -/
import Derived.Test.YtkboeldafppicaaLMem
import Derived.Test.YtkboeldafppicaaNumMap
import Derived.Test.YtkboeldafppicaaListM
import Derived.Deep.AppendLies
set_option linter.unusedVariables false
namespace Go.Proofs.Ytkboeldafppicaa
open Go.RowKit Go.Maps

def numbL {S : Type} (enc : S → Value) (l : List S) : List (Value × Int) := l.zipIdx.map (fun p => (enc p.1, (p.2 : Int)))
theorem numbL_len {S : Type} (enc : S → Value) (l : List S) : (numbL enc l).length = l.length := by simp [numbL]
theorem numbL_snoc {S : Type} (enc : S → Value) (l : List S) (t : S) : numbL enc (l ++ [t]) = numbL enc l ++ [(enc t, (l.length : Int))] := by
  unfold numbL
  rw [List.zipIdx_append, List.map_append]
  simp
theorem numbL_mem {S : Type} (enc : S → Value) (hinj : ∀ s t, enc s = enc t → s = t) (l : List S) (s : S) (c : Int) : (enc s, c) ∈ numbL enc l ↔ ∃ i : Nat, c = i ∧ l[i]? = some s := by
  unfold numbL
  rw [List.mem_map]
  constructor
  · rintro ⟨⟨t, i⟩, hm, he⟩
    simp only [Prod.mk.injEq] at he
    obtain ⟨e1, rfl⟩ := he
    have := hinj _ _ e1
    subst this
    exact ⟨i, rfl, by simpa [List.mem_zipIdx_iff_getElem?] using hm⟩
  · rintro ⟨i, rfl, hi⟩
    exact ⟨(s, i), by simpa [List.mem_zipIdx_iff_getElem?] using hi, rfl⟩

section
variable {S : Type} {enc : S → Value} {cl : S → List Value} {w0 w w' : World} {B g3 gm : Nat} {e : TypeId} {sz L : Nat} {sts mp : List S} {rows : List (List Int)} {accs : List Bool} {vS vN vA : Value} {rv : List Value} {gr : Nat} {xs : List Int}
theorem grown_cell {w w' : World} {row : Option Nat} (h : w.grownBy w' row) {p : Addr} (hp : p.block < w.heap.size) (hne : row ≠ some p.block) : w'.cell? p = w.cell? p := World.cell?_of_block (h.block p.block hp (fun hh => hne hh.symm))
theorem grown_frozen {w w' : World} {row : Option Nat} (h : w.grownBy w' row) {p : Addr} (hp : p.block < w.heap.size) (hne : row ≠ some p.block) : w'.frozen? p = w.frozen? p := by
  unfold World.frozen?
  rw [h.block p.block hp (fun hh => hne hh.symm)]

theorem lies_loc {v : Value} {g n c H : Nat} (h : v.ownBlock = some g ∨ g = H) : (Value.slice (some ⟨g, 0, none⟩) n c).ownBlock = v.ownBlock ∨ (Value.slice (some ⟨g, 0, none⟩) n c).ownBlock = some H := by
  rcases h with e | e
  · exact .inl e.symm
  · exact .inr (by rw [← e]; rfl)
structure OutS (enc : S → Value) (cl : S → List Value) (w0 w : World) (B g3 gm : Nat) (e : TypeId) (sz L : Nat) (sts mp : List S) (rows : List (List Int)) (accs : List Bool) (vS vN vA : Value) (rv : List Value) : Prop where
  mem : LMem w0 w B e sz sts.length (sts.flatMap cl) rows accs vS vN vA rv
  map : NumMap w e gm (numbL enc mp)
  lg : w0.heap.size ≤ g3 ∧ g3 < B
  lm : w0.heap.size ≤ gm ∧ gm < B
  ne : g3 ≠ gm
  c0 : w.cell? ⟨g3, 0, none⟩ = some (.int .i64 (L : Int))
  c1 : w.cell? ⟨g3, 1, none⟩ = some vN
  c2 : w.cell? ⟨g3, 2, none⟩ = some vA
  f1 : w.frozen? ⟨g3, 1, none⟩ = false
  f2 : w.frozen? ⟨g3, 2, none⟩ = false
theorem OutS.grown (h : OutS enc cl w0 w B g3 gm e sz L sts mp rows accs vS vN vA rv) {row : Option Nat} (hg : w.grownBy w' row) (hm : LMem w0 w' B e sz sts.length (sts.flatMap cl) rows accs vS vN vA rv) (h3 : row ≠ some g3) (h4 : row ≠ some gm) : OutS enc cl w0 w' B g3 gm e sz L sts mp rows accs vS vN vA rv where
  mem := hm
  map := h.map.block (hg.block gm h.map.lt (fun hh => h4 hh.symm))
  lg := h.lg
  lm := h.lm
  ne := h.ne
  c0 := (grown_cell hg (cell_lt h.c0) h3).trans h.c0
  c1 := (grown_cell hg (cell_lt h.c1) h3).trans h.c1
  c2 := (grown_cell hg (cell_lt h.c2) h3).trans h.c2
  f1 := (grown_frozen hg (p := ⟨g3, 1, none⟩) (cell_lt h.c1) h3).trans h.f1
  f2 := (grown_frozen hg (p := ⟨g3, 2, none⟩) (cell_lt h.c2) h3).trans h.f2
theorem OutS.below (h : OutS enc cl w0 w B g3 gm e sz L sts mp rows accs vS vN vA rv) (hb : Below w.heap.size w w') : OutS enc cl w0 w' B g3 gm e sz L sts mp rows accs vS vN vA rv :=
  h.grown (below_grown hb (Nat.le_refl _)) (h.mem.below hb) (fun hh => by cases hh) (fun hh => by cases hh)
/-- The map is written. -/
theorem OutS.put {mp' : List S} (h : OutS enc cl w0 w B g3 gm e sz L sts mp rows accs vS vN vA rv) (hg : w.grownBy w' (some gm)) (hm : NumMap w' e gm (numbL enc mp')) : OutS enc cl w0 w' B g3 gm e sz L sts mp' rows accs vS vN vA rv where
  mem := h.mem.grown hg (fun q hq => by cases hq; exact ⟨h.lm.1, h.mem.low gm h.lm.2⟩)
  map := hm
  lg := h.lg
  lm := h.lm
  ne := h.ne
  c0 := (grown_cell hg (cell_lt h.c0) (fun hh => h.ne (Option.some.inj hh).symm)).trans h.c0
  c1 := (grown_cell hg (cell_lt h.c1) (fun hh => h.ne (Option.some.inj hh).symm)).trans h.c1
  c2 := (grown_cell hg (cell_lt h.c2) (fun hh => h.ne (Option.some.inj hh).symm)).trans h.c2
  f1 := (grown_frozen hg (p := ⟨g3, 1, none⟩) (cell_lt h.c1) (fun hh => h.ne (Option.some.inj hh).symm)).trans h.f1
  f2 := (grown_frozen hg (p := ⟨g3, 2, none⟩) (cell_lt h.c2) (fun hh => h.ne (Option.some.inj hh).symm)).trans h.f2
theorem OutS.lowS (h : OutS enc cl w0 w B g3 gm e sz L sts mp rows accs vS vN vA rv) : vS.ownBlock ≠ some g3 ∧ vS.ownBlock ≠ some gm := ⟨(h.mem.low g3 h.lg.2).1, (h.mem.low gm h.lm.2).1⟩
/-- A state more. -/
theorem OutS.appS {v' : Value} {t : S} (h : OutS enc cl w0 w B g3 gm e sz L sts mp rows accs vS vN vA rv) (hown : w'.ownsRow B e sz v' (sts.length + 1) (sts.flatMap cl ++ cl t)) (hg : w.grownBy w' vS.ownBlock) (hloc : v'.ownBlock = vS.ownBlock ∨ v'.ownBlock = some w.heap.size) (hsome : v'.ownBlock ≠ none) :
    OutS enc cl w0 w' B g3 gm e sz L (sts ++ [t]) mp rows accs v' vN vA rv where
  mem := by
    have := h.mem.appS hown hg hloc hsome
    rw [List.length_append, List.flatMap_append]
    simpa using this
  map := h.map.block (hg.block gm h.map.lt (fun hh => h.lowS.2 hh.symm))
  lg := h.lg
  lm := h.lm
  ne := h.ne
  c0 := (grown_cell hg (cell_lt h.c0) h.lowS.1).trans h.c0
  c1 := (grown_cell hg (cell_lt h.c1) h.lowS.1).trans h.c1
  c2 := (grown_cell hg (cell_lt h.c2) h.lowS.1).trans h.c2
  f1 := (grown_frozen hg (p := ⟨g3, 1, none⟩) (cell_lt h.c1) h.lowS.1).trans h.f1
  f2 := (grown_frozen hg (p := ⟨g3, 2, none⟩) (cell_lt h.c2) h.lowS.1).trans h.f2
/-- A row more, written into the box. -/
theorem OutS.pushN {v' r : Value} (h : OutS enc cl w0 w B g3 gm e sz L sts mp rows accs vS vN vA rv) (hown : w'.ownsRow B 26 1 v' (rows.length + 1) (rv ++ [r])) (hg : w.grownBy w' vN.ownBlock) (hloc : v'.ownBlock = vN.ownBlock ∨ v'.ownBlock = some w.heap.size)
    (hr : w.ownsRow B 3 1 r xs.length (xs.map (Value.int .i64))) (hform : ∃ g c, r = .slice (some ⟨g, 0, none⟩) xs.length c ∧ LFree rows vS vN vA rv g) (hS : vS.ownBlock ≠ none) :
    OutS enc cl w0 (w'.setCell ⟨g3, 1, none⟩ v') B g3 gm e sz L sts mp (rows ++ [xs]) accs vS v' vA (rv ++ [r]) := by
  have hN3 : vN.ownBlock ≠ some g3 := (h.mem.low g3 h.lg.2).2.1
  have hNm : vN.ownBlock ≠ some gm := (h.mem.low gm h.lm.2).2.1
  have hm := h.mem.appN hown hg hloc hr hform hS
  have hc0 := (grown_cell hg (cell_lt h.c0) hN3).trans h.c0
  have hc1 := (grown_cell hg (cell_lt h.c1) hN3).trans h.c1
  have hc2 := (grown_cell hg (cell_lt h.c2) hN3).trans h.c2
  have hf1 := (grown_frozen hg (p := ⟨g3, 1, none⟩) (cell_lt h.c1) hN3).trans h.f1
  have hf2 := (grown_frozen hg (p := ⟨g3, 2, none⟩) (cell_lt h.c2) hN3).trans h.f2
  exact { mem := hm.setCell ⟨g3, 1, none⟩ v' h.lg.1 (hm.low g3 h.lg.2)
          map := (h.map.block (hg.block gm h.map.lt (fun hh => hNm hh.symm))).setCell _ _ (fun hh => h.ne hh.symm)
          lg := h.lg
          lm := h.lm
          ne := h.ne
          c0 := by rw [World.cell?_setCell_other _ _ _ _ (by simp)]; exact hc0
          c1 := World.cell?_setCell_same _ _ _ hc1
          c2 := by rw [World.cell?_setCell_other _ _ _ _ (by simp)]; exact hc2
          f1 := by rw [World.frozen?_setCell]; exact hf1
          f2 := by rw [World.frozen?_setCell]; exact hf2 }
/-- An acceptance more, written into the box. -/
theorem OutS.pushA {v' : Value} {b : Bool} (h : OutS enc cl w0 w B g3 gm e sz L sts mp rows accs vS vN vA rv) (hown : w'.ownsRow B 4 1 v' (accs.length + 1) (accs.map Value.bool ++ [Value.bool b])) (hg : w.grownBy w' vA.ownBlock) (hloc : v'.ownBlock = vA.ownBlock ∨ v'.ownBlock = some w.heap.size) :
    OutS enc cl w0 (w'.setCell ⟨g3, 2, none⟩ v') B g3 gm e sz L sts mp rows (accs ++ [b]) vS vN v' rv := by
  have hN3 : vA.ownBlock ≠ some g3 := (h.mem.low g3 h.lg.2).2.2.1
  have hNm : vA.ownBlock ≠ some gm := (h.mem.low gm h.lm.2).2.2.1
  have hm := h.mem.appA hown hg hloc
  have hc0 := (grown_cell hg (cell_lt h.c0) hN3).trans h.c0
  have hc1 := (grown_cell hg (cell_lt h.c1) hN3).trans h.c1
  have hc2 := (grown_cell hg (cell_lt h.c2) hN3).trans h.c2
  have hf1 := (grown_frozen hg (p := ⟨g3, 1, none⟩) (cell_lt h.c1) hN3).trans h.f1
  have hf2 := (grown_frozen hg (p := ⟨g3, 2, none⟩) (cell_lt h.c2) hN3).trans h.f2
  exact { mem := hm.setCell ⟨g3, 2, none⟩ v' h.lg.1 (hm.low g3 h.lg.2)
          map := (h.map.block (hg.block gm h.map.lt (fun hh => hNm hh.symm))).setCell _ _ (fun hh => h.ne hh.symm)
          lg := h.lg
          lm := h.lm
          ne := h.ne
          c0 := by rw [World.cell?_setCell_other _ _ _ _ (by simp)]; exact hc0
          c1 := by rw [World.cell?_setCell_other _ _ _ _ (by simp)]; exact hc1
          c2 := World.cell?_setCell_same _ _ _ hc2
          f1 := by rw [World.frozen?_setCell]; exact hf1
          f2 := by rw [World.frozen?_setCell]; exact hf2 }
/-- A row that is being written. -/
structure RowP (w : World) (B L gr : Nat) (xs : List Int) (rows : List (List Int)) (vS vN vA : Value) (rv : List Value) : Prop where
  own : w.ownsRow B 3 1 (.slice (some ⟨gr, 0, none⟩) L L) L (xs.map (Value.int .i64))
  free : LFree rows vS vN vA rv gr
theorem RowP.lt (h : RowP w B L gr xs rows vS vN vA rv) : B ≤ gr ∧ gr < w.heap.size := h.own.lt gr rfl
theorem RowP.grown (h : RowP w B L gr xs rows vS vN vA rv) {row : Option Nat} (hg : w.grownBy w' row) (hne : row ≠ some gr) : RowP w' B L gr xs rows vS vN vA rv :=
  ⟨kept_or h.own hg (fun q hq hh => hne (by rw [hq]; exact hh.symm)), h.free⟩
theorem RowP.below (h : RowP w B L gr xs rows vS vN vA rv) (hb : Below w.heap.size w w') : RowP w' B L gr xs rows vS vN vA rv := h.grown (below_grown hb (Nat.le_refl _)) (fun hh => by cases hh)
theorem RowP.appS {v' : Value} (h : RowP w B L gr xs rows vS vN vA rv) (hg : w.grownBy w' vS.ownBlock) (hloc : v'.ownBlock = vS.ownBlock ∨ v'.ownBlock = some w.heap.size) : RowP w' B L gr xs rows v' vN vA rv := by
  refine ⟨(h.grown hg h.free.1).own, ?_, h.free.2⟩
  rcases hloc with hl | hl
  · rw [hl]; exact h.free.1
  · rw [hl]
    intro hh
    have := h.lt.2
    have := Option.some.inj hh
    omega
theorem RowP.set (h : RowP w B L gr xs rows vS vN vA rv) (k : Nat) (z : Int) : RowP (w.setCell ⟨gr, k, none⟩ (.int .i64 z)) B L gr (xs.set k z) rows vS vN vA rv := by
  refine ⟨?_, h.free⟩
  rw [List.map_set]
  exact (h.own.stored k _).1
theorem OutS.setRow (h : OutS enc cl w0 w B g3 gm e sz L sts mp rows accs vS vN vA rv) (hr : RowP w B L gr xs rows vS vN vA rv) (k : Nat) (u : Value) : OutS enc cl w0 (w.setCell ⟨gr, k, none⟩ u) B g3 gm e sz L sts mp rows accs vS vN vA rv := by
  have := hr.lt
  have := h.lg
  have := h.lm
  refine h.grown (setCell_grown w _ u) (h.mem.setCell _ _ (by dsimp only; omega) hr.free) (fun hh => ?_) (fun hh => ?_)
  · have := Option.some.inj hh; dsimp only at this; omega
  · have := Option.some.inj hh; dsimp only at this; omega
end
end Go.Proofs.Ytkboeldafppicaa
