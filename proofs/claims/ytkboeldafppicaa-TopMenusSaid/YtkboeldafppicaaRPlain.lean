/- The document's plain form: chapter 3. -/
import Derived.Test.YtkboeldafppicaaPlainM
import Derived.Test.YtkboeldafppicaaKindsM
import Derived.Test.YtkboeldafppicaaLstI
import Derived.Test.YtkboeldafppicaaMachA
import Derived.Test.YtkboeldafppicaaRKinds
import Derived.Test.YtkboeldafppicaaListedI
import Derived.Deep.LoopGhost
/- The document's plain form as the plain form of a language: mathematics. -/
set_option linter.unusedVariables false
namespace Go.Proofs.Ytkboeldafppicaa

theorem idxOf_map {S T : Type} [DecidableEq S] [DecidableEq T] (f : Nat → S) (g : Nat → T) (l : List Nat) (t : Nat) (h : ∀ s ∈ l, f s = f t ↔ g s = g t) : (f t ∈ l.map f ↔ g t ∈ l.map g) ∧ (l.map f).idxOf (f t) = (l.map g).idxOf (g t) := by
  induction l with
  | nil => simp
  | cons a l ih =>
    obtain ⟨h1, h2⟩ := ih (fun s hs => h s (by simp [hs]))
    have ha := h a (by simp)
    refine ⟨?_, ?_⟩
    · rw [List.map_cons, List.map_cons, List.mem_cons, List.mem_cons, h1]
      exact or_congr ⟨fun e => (ha.1 e.symm).symm, fun e => (ha.2 e.symm).symm⟩ Iff.rfl
    · rw [List.map_cons, List.map_cons, List.idxOf_cons, List.idxOf_cons, h2]
      by_cases e : f a = f t
      · have e2 := ha.1 e
        simp [e, e2]
      · have e2 : ¬ g a = g t := fun hh => e (ha.2 hh)
        have e3 : (f a == f t) = false := by simpa using e
        have e4 : (g a == g t) = false := by simpa using e2
        rw [e3, e4]
/-- The state behind k letters of the row of s: what the document's inner loop has made of the list of states and the row. -/
def rpRow (L : Nat) (rows : List (List Int)) (kd : Nat → Nat) (s : Nat) (st : List Nat) : Nat → List Nat × List Int
  | 0 => (st, [])
  | c + 1 => if kd (mN rows s c) ∈ (rpRow L rows kd s st c).1.map kd then ((rpRow L rows kd s st c).1, (rpRow L rows kd s st c).2 ++ [((((rpRow L rows kd s st c).1.map kd).idxOf (kd (mN rows s c)) : Nat) : Int)])
      else ((rpRow L rows kd s st c).1 ++ [mN rows s c], (rpRow L rows kd s st c).2 ++ [(((rpRow L rows kd s st c).1.length : Nat) : Int)])
section
variable {L : Nat} {rows : List (List Int)} {accs : List Bool} {kd : Nat → Nat}
theorem rpRow_canon (hcl : ∀ s c, s < rows.length → c < L → mN rows s c < rows.length) (hkd : ∀ s t, s < rows.length → t < rows.length → (mLang L rows accs s = mLang L rows accs t ↔ kd s = kd t)) (s : Nat) (hs : s < rows.length) (st : List Nat) (hst : ∀ t ∈ st, t < rows.length) (c : Nat) (hc : c ≤ L) :
    (rpRow L rows kd s st c).1.map (mLang L rows accs) = (rowTo dv (mLang L rows accs s) (st.map (mLang L rows accs)) c).1 ∧ (rpRow L rows kd s st c).2 = (rowTo dv (mLang L rows accs s) (st.map (mLang L rows accs)) c).2 ∧ ∀ t ∈ (rpRow L rows kd s st c).1, t < rows.length := by
  induction c with
  | zero => exact ⟨rfl, rfl, hst⟩
  | succ c ih =>
    obtain ⟨h1, h2, h3⟩ := ih (by omega)
    have hd : dv (mLang L rows accs s) c = mLang L rows accs (mN rows s c) := langOf_dv s c (by omega)
    have hn := hcl s c hs (by omega)
    obtain ⟨k1, k2⟩ := idxOf_map (mLang L rows accs) kd (rpRow L rows kd s st c).1 (mN rows s c) (fun t ht => hkd t _ (h3 t ht) hn)
    rw [rpRow]
    by_cases hm : kd (mN rows s c) ∈ (rpRow L rows kd s st c).1.map kd
    · rw [if_pos hm, rowTo_old _ _ _ _ (by rw [hd, ← h1]; exact k1.2 hm)]
      refine ⟨h1, ?_, h3⟩
      dsimp only
      rw [h2, hd, ← h1, k2]
    · rw [if_neg hm, rowTo_new _ _ _ _ (by rw [hd, ← h1]; exact fun hh => hm (k1.1 hh))]
      refine ⟨?_, ?_, ?_⟩
      · dsimp only; rw [List.map_append, h1, hd]; rfl
      · dsimp only; rw [h2, ← h1, List.length_map]
      · intro t ht
        rcases List.mem_append.1 ht with h | h
        · exact h3 t h
        · simp at h; subst h; exact hn
/-- The states, rows and acceptances behind the first i states. -/
def rpTo (L : Nat) (rows : List (List Int)) (accs : List Bool) (kd : Nat → Nat) : Nat → List Nat × List (List Int) × List Bool
  | 0 => ([0], [], [])
  | i + 1 => ((rpRow L rows kd ((rpTo L rows accs kd i).1[i]?.getD 0) (rpTo L rows accs kd i).1 L).1, (rpTo L rows accs kd i).2.1 ++ [(rpRow L rows kd ((rpTo L rows accs kd i).1[i]?.getD 0) (rpTo L rows accs kd i).1 L).2], (rpTo L rows accs kd i).2.2 ++ [mA accs ((rpTo L rows accs kd i).1[i]?.getD 0)])
theorem rpTo_canon (hcl : ∀ s c, s < rows.length → c < L → mN rows s c < rows.length) (hpos : 0 < rows.length) (hkd : ∀ s t, s < rows.length → t < rows.length → (mLang L rows accs s = mLang L rows accs t ↔ kd s = kd t)) (i : Nat) :
    (rpTo L rows accs kd i).1.map (mLang L rows accs) = (canon L (mLang L rows accs 0) i).1 ∧ (rpTo L rows accs kd i).2 = (canon L (mLang L rows accs 0) i).2 ∧ ∀ t ∈ (rpTo L rows accs kd i).1, t < rows.length := by
  induction i with
  | zero => exact ⟨rfl, rfl, fun t ht => by simp [rpTo] at ht; omega⟩
  | succ i ih =>
    obtain ⟨h1, h2, h3⟩ := ih
    have hs : (rpTo L rows accs kd i).1[i]?.getD 0 < rows.length := by
      cases h : (rpTo L rows accs kd i).1[i]? with
      | none => exact hpos
      | some t => exact h3 t (List.mem_of_getElem? h)
    have hg : (canon L (mLang L rows accs 0) i).1[i]?.getD (mLang L rows accs 0) = mLang L rows accs ((rpTo L rows accs kd i).1[i]?.getD 0) := by
      rw [← h1, List.getElem?_map]
      cases (rpTo L rows accs kd i).1[i]? <;> rfl
    obtain ⟨k1, k2, k3⟩ := rpRow_canon hcl hkd _ hs (rpTo L rows accs kd i).1 h3 L (Nat.le_refl _)
    rw [h1] at k1 k2
    have he : canon L (mLang L rows accs 0) (i + 1) = ((rowTo dv ((canon L (mLang L rows accs 0) i).1[i]?.getD (mLang L rows accs 0)) (canon L (mLang L rows accs 0) i).1 L).1, (canon L (mLang L rows accs 0) i).2.1 ++ [(rowTo dv ((canon L (mLang L rows accs 0) i).1[i]?.getD (mLang L rows accs 0)) (canon L (mLang L rows accs 0) i).1 L).2], (canon L (mLang L rows accs 0) i).2.2 ++ [ep ((canon L (mLang L rows accs 0) i).1[i]?.getD (mLang L rows accs 0))]) := rfl
    rw [he, hg, rpTo]
    refine ⟨k1, ?_, k3⟩
    dsimp only
    rw [k2, h2]
    congr 3
    rw [show ep (mLang L rows accs ((rpTo L rows accs kd i).1[i]?.getD 0)) = mA accs ((rpTo L rows accs kd i).1[i]?.getD 0) from langOf_ep _]
theorem rpTo_len (i : Nat) : (rpTo L rows accs kd i).2.1.length = i ∧ (rpTo L rows accs kd i).2.2.length = i := by
  induction i with
  | zero => exact ⟨rfl, rfl⟩
  | succ i ih => rw [rpTo]; simp [ih]
theorem rpRow_len (s : Nat) (st : List Nat) (c : Nat) : (rpRow L rows kd s st c).2.length = c := by
  induction c with
  | zero => rfl
  | succ c ih => rw [rpRow]; split <;> simp [ih]
theorem rpRow_pre (s : Nat) (st : List Nat) (c : Nat) : st <+: (rpRow L rows kd s st c).1 := by
  induction c with
  | zero => exact List.prefix_refl _
  | succ c ih => rw [rpRow]; split; exact ih; exact ih.trans (List.prefix_append _ _)
end
end Go.Proofs.Ytkboeldafppicaa
/- The memory of the machine that the document makes plain: at first, and as a machine. -/
/- The memory of a machine that the document makes plain: chapter 3. -/
set_option linter.unusedVariables false
namespace Go.Proofs.Ytkboeldafppicaa
open Go.RowKit Go.Maps

def VIo (s : Int) : Value := .int .i64 s
theorem VIo_inj : ∀ s t, VIo s = VIo t → s = t := by
  intro s t h
  simp only [VIo, Value.int.injEq, true_and] at h
  exact h
section
variable {rows : List (List Int)} {vS vN vA : Value} {rv : List Value} {q : Nat}
theorem LFree.appS {v' : Value} {H : Nat} (h : LFree rows vS vN vA rv q) (hl : v'.ownBlock = vS.ownBlock ∨ v'.ownBlock = some H) (hq : q ≠ H) : LFree rows v' vN vA rv q := by
  refine ⟨?_, h.2⟩
  rcases hl with e | e
  · rw [e]; exact h.1
  · rw [e]; intro hh; exact hq (Option.some.inj hh).symm
theorem LFree.appA {v' : Value} {H : Nat} (h : LFree rows vS vN vA rv q) (hl : v'.ownBlock = vA.ownBlock ∨ v'.ownBlock = some H) (hq : q ≠ H) : LFree rows vS vN v' rv q := by
  refine ⟨h.1, h.2.1, ?_, h.2.2.2⟩
  rcases hl with e | e
  · rw [e]; exact h.2.2.1
  · rw [e]; intro hh; exact hq (Option.some.inj hh).symm
theorem LFree.appN {v' r : Value} {xs : List Int} {H : Nat} (h : LFree rows vS vN vA rv q) (hl : v'.ownBlock = vN.ownBlock ∨ v'.ownBlock = some H) (hq : q ≠ H) (hr : r.ownBlock ≠ some q) (hrl : rv.length = rows.length) : LFree (rows ++ [xs]) vS v' vA (rv ++ [r]) q := by
  refine ⟨h.1, ?_, h.2.2.1, fun i hi r' hr' => ?_⟩
  · rcases hl with e | e
    · rw [e]; exact h.2.1
    · rw [e]; intro hh; exact hq (Option.some.inj hh).symm
  · by_cases e : i < rows.length
    · rw [List.getElem?_append_left (by omega)] at hr'
      exact h.2.2.2 i e r' hr'
    · have hi' : i = rows.length := by simp at hi; omega
      rw [hi', ← hrl] at hr'
      simp at hr'
      subst hr'; exact hr
end
structure OutP (w0 w : World) (B g3 gm L : Nat) (sts kd : List Int) (rows : List (List Int)) (accs : List Bool) (vS vN vA : Value) (rv : List Value) : Prop where
  mem : LMem w0 w B 3 1 sts.length (sts.map (Value.int .i64)) rows accs vS vN vA rv
  map : NumMap w 3 gm (numbL VIo kd)
  lg : w0.heap.size ≤ g3 ∧ g3 < w.heap.size
  lm : w0.heap.size ≤ gm
  ne : g3 ≠ gm
  f3 : LFree rows vS vN vA rv g3
  fm : LFree rows vS vN vA rv gm
  c0 : w.cell? ⟨g3, 0, none⟩ = some (.int .i64 (L : Int))
  c1 : w.cell? ⟨g3, 1, none⟩ = some vN
  c2 : w.cell? ⟨g3, 2, none⟩ = some vA
  z1 : w.frozen? ⟨g3, 1, none⟩ = false
  z2 : w.frozen? ⟨g3, 2, none⟩ = false
section
variable {w0 w w' : World} {B g3 gm L : Nat} {sts kd : List Int} {rows : List (List Int)} {accs : List Bool} {vS vN vA : Value} {rv : List Value} {xs : List Int}
theorem OutP.grown (h : OutP w0 w B g3 gm L sts kd rows accs vS vN vA rv) {row : Option Nat} (hg : w.grownBy w' row) (hr : ∀ q, row = some q → w0.heap.size ≤ q ∧ LFree rows vS vN vA rv q ∧ q ≠ g3 ∧ q ≠ gm) : OutP w0 w' B g3 gm L sts kd rows accs vS vN vA rv :=
  have h3 : row ≠ some g3 := fun hh => (hr g3 hh).2.2.1 rfl
  have h4 : row ≠ some gm := fun hh => (hr gm hh).2.2.2 rfl
  { mem := h.mem.grown hg (fun q hq => ⟨(hr q hq).1, (hr q hq).2.1⟩)
    map := h.map.block (hg.block gm h.map.lt (fun hh => h4 hh.symm))
    lg := ⟨h.lg.1, Nat.lt_of_lt_of_le h.lg.2 hg.size⟩
    lm := h.lm
    ne := h.ne
    f3 := h.f3
    fm := h.fm
    c0 := (grown_cell hg (cell_lt h.c0) h3).trans h.c0
    c1 := (grown_cell hg (cell_lt h.c1) h3).trans h.c1
    c2 := (grown_cell hg (cell_lt h.c2) h3).trans h.c2
    z1 := (grown_frozen hg (p := ⟨g3, 1, none⟩) (cell_lt h.c1) h3).trans h.z1
    z2 := (grown_frozen hg (p := ⟨g3, 2, none⟩) (cell_lt h.c2) h3).trans h.z2 }
theorem OutP.below (h : OutP w0 w B g3 gm L sts kd rows accs vS vN vA rv) (hb : Below w.heap.size w w') : OutP w0 w' B g3 gm L sts kd rows accs vS vN vA rv :=
  h.grown (below_grown hb (Nat.le_refl _)) (fun q hq => by cases hq)
/-- The map is written. -/
theorem OutP.put {kd' : List Int} (h : OutP w0 w B g3 gm L sts kd rows accs vS vN vA rv) (hg : w.grownBy w' (some gm)) (hm : NumMap w' 3 gm (numbL VIo kd')) : OutP w0 w' B g3 gm L sts kd' rows accs vS vN vA rv :=
  have h3 : (some gm : Option Nat) ≠ some g3 := fun hh => h.ne (Option.some.inj hh).symm
  { mem := h.mem.grown hg (fun q hq => by cases hq; exact ⟨h.lm, h.fm⟩)
    map := hm
    lg := ⟨h.lg.1, Nat.lt_of_lt_of_le h.lg.2 hg.size⟩
    lm := h.lm
    ne := h.ne
    f3 := h.f3
    fm := h.fm
    c0 := (grown_cell hg (cell_lt h.c0) h3).trans h.c0
    c1 := (grown_cell hg (cell_lt h.c1) h3).trans h.c1
    c2 := (grown_cell hg (cell_lt h.c2) h3).trans h.c2
    z1 := (grown_frozen hg (p := ⟨g3, 1, none⟩) (cell_lt h.c1) h3).trans h.z1
    z2 := (grown_frozen hg (p := ⟨g3, 2, none⟩) (cell_lt h.c2) h3).trans h.z2 }
/-- A state more. -/
theorem OutP.appS {v' : Value} {t : Int} (h : OutP w0 w B g3 gm L sts kd rows accs vS vN vA rv) (hown : w'.ownsRow B 3 1 v' (sts.length + 1) (sts.map (Value.int .i64) ++ [Value.int .i64 t])) (hg : w.grownBy w' vS.ownBlock) (hloc : v'.ownBlock = vS.ownBlock ∨ v'.ownBlock = some w.heap.size) (hsome : v'.ownBlock ≠ none) :
    OutP w0 w' B g3 gm L (sts ++ [t]) kd rows accs v' vN vA rv :=
  have h3 : vS.ownBlock ≠ some g3 := h.f3.1
  have h4 : vS.ownBlock ≠ some gm := h.fm.1
  { mem := by
      have := h.mem.appS hown hg hloc hsome
      rw [List.length_append, List.map_append]
      simpa using this
    map := h.map.block (hg.block gm h.map.lt (fun hh => h4 hh.symm))
    lg := ⟨h.lg.1, Nat.lt_of_lt_of_le h.lg.2 hg.size⟩
    lm := h.lm
    ne := h.ne
    f3 := h.f3.appS hloc (Nat.ne_of_lt h.lg.2)
    fm := h.fm.appS hloc (Nat.ne_of_lt h.map.lt)
    c0 := (grown_cell hg (cell_lt h.c0) h3).trans h.c0
    c1 := (grown_cell hg (cell_lt h.c1) h3).trans h.c1
    c2 := (grown_cell hg (cell_lt h.c2) h3).trans h.c2
    z1 := (grown_frozen hg (p := ⟨g3, 1, none⟩) (cell_lt h.c1) h3).trans h.z1
    z2 := (grown_frozen hg (p := ⟨g3, 2, none⟩) (cell_lt h.c2) h3).trans h.z2 }
/-- A row more, written into the box. -/
theorem OutP.pushN {v' r : Value} (h : OutP w0 w B g3 gm L sts kd rows accs vS vN vA rv) (hown : w'.ownsRow B 26 1 v' (rows.length + 1) (rv ++ [r])) (hg : w.grownBy w' vN.ownBlock) (hloc : v'.ownBlock = vN.ownBlock ∨ v'.ownBlock = some w.heap.size)
    (hr : w.ownsRow B 3 1 r xs.length (xs.map (Value.int .i64))) (hform : ∃ g c, r = .slice (some ⟨g, 0, none⟩) xs.length c ∧ LFree rows vS vN vA rv g) (hr3 : r.ownBlock ≠ some g3) (hrm : r.ownBlock ≠ some gm) (hS : vS.ownBlock ≠ none) :
    OutP w0 (w'.setCell ⟨g3, 1, none⟩ v') B g3 gm L sts kd (rows ++ [xs]) accs vS v' vA (rv ++ [r]) :=
  have h3 : vN.ownBlock ≠ some g3 := h.f3.2.1
  have h4 : vN.ownBlock ≠ some gm := h.fm.2.1
  have hrl : rv.length = rows.length := by simpa using h.mem.N.1
  have hm := h.mem.appN hown hg hloc hr hform hS
  have k3 := h.f3.appN (xs := xs) hloc (Nat.ne_of_lt h.lg.2) hr3 hrl
  have km := h.fm.appN (xs := xs) hloc (Nat.ne_of_lt h.map.lt) hrm hrl
  have hc0 := (grown_cell hg (cell_lt h.c0) h3).trans h.c0
  have hc1 := (grown_cell hg (cell_lt h.c1) h3).trans h.c1
  have hc2 := (grown_cell hg (cell_lt h.c2) h3).trans h.c2
  have hf1 := (grown_frozen hg (p := ⟨g3, 1, none⟩) (cell_lt h.c1) h3).trans h.z1
  have hf2 := (grown_frozen hg (p := ⟨g3, 2, none⟩) (cell_lt h.c2) h3).trans h.z2
  { mem := hm.setCell ⟨g3, 1, none⟩ v' h.lg.1 k3
    map := (h.map.block (hg.block gm h.map.lt (fun hh => h4 hh.symm))).setCell _ _ (fun hh => h.ne hh.symm)
    lg := ⟨h.lg.1, by simp; exact Nat.lt_of_lt_of_le h.lg.2 hg.size⟩
    lm := h.lm
    ne := h.ne
    f3 := k3
    fm := km
    c0 := by rw [World.cell?_setCell_other _ _ _ _ (by simp)]; exact hc0
    c1 := World.cell?_setCell_same _ _ _ hc1
    c2 := by rw [World.cell?_setCell_other _ _ _ _ (by simp)]; exact hc2
    z1 := by rw [World.frozen?_setCell]; exact hf1
    z2 := by rw [World.frozen?_setCell]; exact hf2 }
/-- An acceptance more, written into the box. -/
theorem OutP.pushA {v' : Value} {b : Bool} (h : OutP w0 w B g3 gm L sts kd rows accs vS vN vA rv) (hown : w'.ownsRow B 4 1 v' (accs.length + 1) (accs.map Value.bool ++ [Value.bool b])) (hg : w.grownBy w' vA.ownBlock) (hloc : v'.ownBlock = vA.ownBlock ∨ v'.ownBlock = some w.heap.size) :
    OutP w0 (w'.setCell ⟨g3, 2, none⟩ v') B g3 gm L sts kd rows (accs ++ [b]) vS vN v' rv :=
  have h3 : vA.ownBlock ≠ some g3 := h.f3.2.2.1
  have h4 : vA.ownBlock ≠ some gm := h.fm.2.2.1
  have hm := h.mem.appA hown hg hloc
  have k3 := h.f3.appA hloc (Nat.ne_of_lt h.lg.2)
  have km := h.fm.appA hloc (Nat.ne_of_lt h.map.lt)
  have hc0 := (grown_cell hg (cell_lt h.c0) h3).trans h.c0
  have hc1 := (grown_cell hg (cell_lt h.c1) h3).trans h.c1
  have hc2 := (grown_cell hg (cell_lt h.c2) h3).trans h.c2
  have hf1 := (grown_frozen hg (p := ⟨g3, 1, none⟩) (cell_lt h.c1) h3).trans h.z1
  have hf2 := (grown_frozen hg (p := ⟨g3, 2, none⟩) (cell_lt h.c2) h3).trans h.z2
  { mem := hm.setCell ⟨g3, 2, none⟩ v' h.lg.1 k3
    map := (h.map.block (hg.block gm h.map.lt (fun hh => h4 hh.symm))).setCell _ _ (fun hh => h.ne hh.symm)
    lg := ⟨h.lg.1, by simp; exact Nat.lt_of_lt_of_le h.lg.2 hg.size⟩
    lm := h.lm
    ne := h.ne
    f3 := k3
    fm := km
    c0 := by rw [World.cell?_setCell_other _ _ _ _ (by simp)]; exact hc0
    c1 := by rw [World.cell?_setCell_other _ _ _ _ (by simp)]; exact hc1
    c2 := World.cell?_setCell_same _ _ _ hc2
    z1 := by rw [World.frozen?_setCell]; exact hf1
    z2 := by rw [World.frozen?_setCell]; exact hf2 }
/-- A row that is appended to. -/
structure RowQ (w : World) (B g3 gm : Nat) (r : Value) (xs : List Int) (rows : List (List Int)) (vS vN vA : Value) (rv : List Value) : Prop where
  own : w.ownsRow B 3 1 r xs.length (xs.map (Value.int .i64))
  free : ∀ q, r.ownBlock = some q → LFree rows vS vN vA rv q ∧ q ≠ g3 ∧ q ≠ gm
theorem RowQ.nil (w : World) (B g3 gm : Nat) (rows : List (List Int)) (vS vN vA : Value) (rv : List Value) : RowQ w B g3 gm (.slice none 0 0) [] rows vS vN vA rv := ⟨⟨rfl, .inl ⟨rfl, rfl⟩⟩, fun q hq => by cases hq⟩
theorem RowQ.grown {r : Value} (h : RowQ w B g3 gm r xs rows vS vN vA rv) {row : Option Nat} (hg : w.grownBy w' row) (hne : ∀ q, row = some q → r.ownBlock ≠ some q) : RowQ w' B g3 gm r xs rows vS vN vA rv := ⟨kept_or h.own hg hne, h.free⟩
theorem RowQ.below {r : Value} (h : RowQ w B g3 gm r xs rows vS vN vA rv) (hb : Below w.heap.size w w') : RowQ w' B g3 gm r xs rows vS vN vA rv := h.grown (below_grown hb (Nat.le_refl _)) (fun q hq => by cases hq)
/-- The states grow. -/
theorem RowQ.appS {r v' : Value} (h : RowQ w B g3 gm r xs rows vS vN vA rv) (hg : w.grownBy w' vS.ownBlock) (hloc : v'.ownBlock = vS.ownBlock ∨ v'.ownBlock = some w.heap.size) : RowQ w' B g3 gm r xs rows v' vN vA rv :=
  ⟨(h.grown hg (fun q hq hh => (h.free q hh).1.1 hq)).own, fun q hq => ⟨(h.free q hq).1.appS hloc (Nat.ne_of_lt (h.own.lt q hq).2), (h.free q hq).2⟩⟩
/-- The row grows. -/
theorem RowQ.app {r r' : Value} {x : Int} (ho : OutP w0 w B g3 gm L sts kd rows accs vS vN vA rv) (h : RowQ w B g3 gm r xs rows vS vN vA rv) (hown : w'.ownsRow B 3 1 r' (xs.length + 1) (xs.map (Value.int .i64) ++ [Value.int .i64 x])) (hg : w.grownBy w' r.ownBlock) (hloc : r'.ownBlock = r.ownBlock ∨ r'.ownBlock = some w.heap.size) :
    RowQ w' B g3 gm r' (xs ++ [x]) rows vS vN vA rv ∧ OutP w0 w' B g3 gm L sts kd rows accs vS vN vA rv := by
  refine ⟨⟨by rw [List.length_append, List.map_append]; simpa using hown, fun q hq => ?_⟩, ho.grown hg (fun q hq => ⟨by have := (h.own.lt q hq).1; have := ho.mem.hB; omega, (h.free q hq).1, (h.free q hq).2⟩)⟩
  rcases hloc with e | e
  · exact h.free q (by rw [← e]; exact hq)
  · rw [e] at hq
    obtain rfl := Option.some.inj hq
    exact ⟨ho.mem.new _ (Nat.le_refl _), Nat.ne_of_gt ho.lg.2, Nat.ne_of_gt ho.map.lt⟩
end
end Go.Proofs.Ytkboeldafppicaa
set_option linter.unusedVariables false
namespace Go.Proofs.Ytkboeldafppicaa
open Go.RowKit Go.Maps

theorem LMem.mach {w0 w w' : World} {B : Nat} {e : TypeId} {sz ns : Nat} {sc : List Value} {rows : List (List Int)} {accs : List Bool} {vS vN vA : Value} {rv : List Value} (h : LMem w0 w B e sz ns sc rows accs vS vN vA rv) (hk : ∀ a : Addr, B ≤ a.block → w'.cell? a = w.cell? a) (hr : rows.length ≤ 1000000) (ha : accs.length ≤ 1000000) (hx : ∀ r ∈ rows, r.length ≤ 1000000 ∧ ∀ x ∈ r, I64 x) :
    ∃ Na nc Aa ac, vN = .slice Na rows.length nc ∧ vA = .slice Aa accs.length ac ∧ MachAt w' Na rows Aa accs := by
  have hN := h.N
  have hA := h.A
  have hR := h.R
  obtain ⟨Na, nc, hvN, hNat⟩ : ∃ Na nc, vN = .slice Na rows.length nc ∧ (rows = [] ∨ ∃ b off, Na = some ⟨b, off, none⟩ ∧ ∀ i, i < rows.length → ∃ A c, w'.cell? ⟨b, off + i, none⟩ = some (.slice A (rows[i]?.getD []).length c) ∧ Ints w' A (rows[i]?.getD [])) := by
    rcases hN.2 with ⟨hv, hn⟩ | ⟨g, c, cur, hv, _⟩
    · exact ⟨none, 0, by rw [hv, hn], .inl (List.eq_nil_of_length_eq_zero hn)⟩
    · refine ⟨_, c, hv, .inr ⟨g, 0, rfl, fun i hi => ?_⟩⟩
      obtain ⟨r, e1, ⟨g2, cg, e2⟩, e3, _⟩ := hR i hi
      have hmem : rows[i]?.getD [] ∈ rows := by rw [List.getElem?_eq_getElem hi]; exact List.getElem_mem hi
      obtain ⟨hxl, hxb⟩ := hx _ hmem
      rw [hv] at hN
      rw [e2] at e1 e3
      exact ⟨_, _, by rw [hk _ (by have := (World.ownsRow.lt hN g rfl).1; exact this), Nat.zero_add, World.ownsRow.cellAt hN _ (by omega)]; exact e1, own_ints_of e3 hk (by omega) hxb⟩
  obtain ⟨Aa, ac, hvA, hAat⟩ : ∃ Aa ac, vA = .slice Aa accs.length ac ∧ (accs = [] ∨ ∃ b off, Aa = some ⟨b, off, none⟩ ∧ ∀ i, i < accs.length → w'.cell? ⟨b, off + i, none⟩ = some (.bool (accs[i]?.getD false))) := by
    rcases hA.2 with ⟨hv, hn⟩ | ⟨g, c, cur, hv, _⟩
    · exact ⟨none, 0, by rw [hv, hn], .inl (List.eq_nil_of_length_eq_zero hn)⟩
    · refine ⟨_, c, hv, .inr ⟨g, 0, rfl, fun i hi => ?_⟩⟩
      rw [hv] at hA
      rw [hk _ (by have := (World.ownsRow.lt hA g rfl).1; exact this), Nat.zero_add, World.ownsRow.cellAt hA _ (by omega), List.getElem?_map, List.getElem?_eq_getElem hi]
      rfl
  exact ⟨Na, nc, Aa, ac, hvN, hvA, ⟨by omega, hNat, by omega, hAat⟩⟩
theorem LMem.machF {w0 w w' : World} {B : Nat} {e : TypeId} {sz ns : Nat} {sc : List Value} {rows : List (List Int)} {accs : List Bool} {vS vN vA : Value} {rv : List Value} (h : LMem w0 w B e sz ns sc rows accs vS vN vA rv) (hk : ∀ a : Addr, B ≤ a.block → w'.heap[a.block]? = w.heap[a.block]?) (hs : w.heap.size ≤ w'.heap.size) (hr : rows.length ≤ 1000000) (ha : accs.length ≤ 1000000) (hx : ∀ r ∈ rows, r.length ≤ 1000000 ∧ ∀ x ∈ r, I64 x) (hpos : ∀ i, i < rows.length → 0 < (rows[i]?.getD []).length) :
    ∃ Na nc Aa ac, vN = .slice Na rows.length nc ∧ vA = .slice Aa accs.length ac ∧ MachFrom w' B Na rows Aa accs := by
  have hc : ∀ a : Addr, B ≤ a.block → w'.cell? a = w.cell? a := fun a ha => World.cell?_of_block (hk a ha)
  obtain ⟨Na, nc, Aa, ac, hvN, hvA, hM⟩ := h.mach hc hr ha hx
  refine ⟨Na, nc, Aa, ac, hvN, hvA, ⟨hM, ?_, ?_⟩⟩
  · by_cases hn : rows.length = 0
    · exact .inl (List.eq_nil_of_length_eq_zero hn)
    · have hN := h.N
      rcases hN.2 with ⟨hv, hn2⟩ | ⟨b, c, cur, hv, _⟩
      · exact absurd hn2 hn
      · have hNa : Na = some ⟨b, 0, none⟩ := by rw [hv] at hvN; simp only [Value.slice.injEq] at hvN; exact hvN.1.symm
        rw [hv] at hN
        refine .inr ⟨b, hNa, (World.ownsRow.lt hN b rfl).1, fun i hi => ?_⟩
        obtain ⟨r, e1, ⟨g, cg, e2⟩, e3, e4, e5, e6⟩ := h.R i hi
        rw [e2] at e1 e3 e5
        refine ⟨g, cg, ?_, (e3.lt g rfl).1, fun hh => e5 (by rw [hv, hh]; rfl), Nat.lt_of_lt_of_le (e3.lt g rfl).2 hs, fun j => ?_⟩
        · rw [hc _ (World.ownsRow.lt hN b rfl).1, World.ownsRow.cellAt hN _ (by omega)]; exact e1
        · rcases e3.2 with ⟨hv3, _⟩ | ⟨g', c', cur', hv3, _, hh3, _⟩
          · cases hv3
          · simp only [Value.slice.injEq, Option.some.injEq, Addr.mk.injEq, and_true] at hv3
            obtain ⟨rfl, _⟩ := hv3
            have := hk ⟨g, j, none⟩ (e3.lt g rfl).1
            unfold World.frozen?
            rw [this, hh3]; simp
  · by_cases hn : accs.length = 0
    · exact .inl (List.eq_nil_of_length_eq_zero hn)
    · have hA := h.A
      rcases hA.2 with ⟨hv, hn2⟩ | ⟨b, c, cur, hv, _⟩
      · exact absurd hn2 hn
      · rw [hv] at hA
        refine .inr ⟨b, ?_, (World.ownsRow.lt hA b rfl).1⟩
        rw [hv] at hvA; simp only [Value.slice.injEq] at hvA; exact hvA.1.symm

theorem OutP.init {w0 w3 : World} {L : Nat} {k0 : Int} (hg : (w0.alloc (.map #[] 0)).grownBy w3 (some w0.heap.size)) (hm : NumMap w3 3 w0.heap.size (numbL VIo [k0])) :
    OutP w0 ((w3.alloc (.cells #[.int .i64 0] 3)).alloc (.cells #[.int .i64 (L : Int), .slice none 0 0, .slice none 0 0] 25)) (w0.heap.size + 1) (w3.heap.size + 1) w0.heap.size L [0] [k0] [] [] (.slice (some ⟨w3.heap.size, 0, none⟩) 1 1) (.slice none 0 0) (.slice none 0 0) [] := by
  have hz3 := hg.size
  simp at hz3
  have hB0 : Below w0.heap.size w0 (w0.alloc (.map #[] 0)) := (Below.refl _ _).alloc (Nat.le_refl _) _
  have hB3 : Below w0.heap.size w0 w3 := hB0.grown hg (by simp) (fun k hk => by cases hk; omega)
  have hB4 : Below w0.heap.size w0 (w3.alloc (.cells #[.int .i64 0] 3)) := hB3.alloc hB3.size _
  have hB5 := hB4.alloc hB4.size (.cells #[.int .i64 (L : Int), .slice none 0 0, .slice none 0 0] 25)
  have hA : Below w3.heap.size w3 ((w3.alloc (.cells #[.int .i64 0] 3)).alloc (.cells #[.int .i64 (L : Int), .slice none 0 0, .slice none 0 0] 25)) := ((Below.refl _ _).alloc (Nat.le_refl _) _).alloc (by simp) _
  have hS := World.ownsRow_lit (base := w0.heap.size + 1) (e := 3) (size := 1) w3 #[.int .i64 0] 1 (by omega) (by decide) (by simp)
  have hS1 : w3.alloc (.cells #[.int .i64 0] 3) = w3.alloc (.cells #[.int .i64 0] 3) := rfl
  have hS2 := kept_or hS (below_grown (m := (w3.alloc (.cells #[.int .i64 0] 3)).heap.size) ((Below.refl _ (w3.alloc (.cells #[.int .i64 0] 3))).alloc (Nat.le_refl _) (.cells #[.int .i64 (L : Int), .slice none 0 0, .slice none 0 0] 25)) (Nat.le_refl _)) (fun q hq => by cases hq)
  have free : ∀ q, q ≠ w3.heap.size → LFree [] (.slice (some ⟨w3.heap.size, 0, none⟩) 1 1) (.slice none 0 0) (.slice none 0 0) [] q := fun q hq =>
    ⟨by simp [Value.ownBlock]; omega, by simp [Value.ownBlock], by simp [Value.ownBlock], fun i hi => by simp at hi⟩
  exact { mem := { bel := hB5
                   hB := by omega
                   hBw := by simp; omega
                   S := by simpa using hS2
                   N := ⟨rfl, .inl ⟨rfl, rfl⟩⟩
                   A := ⟨rfl, .inl ⟨rfl, rfl⟩⟩
                   R := fun i hi => by simp at hi
                   SN := by simp [Value.ownBlock]
                   SA := by simp [Value.ownBlock]
                   NA := .inl rfl }
          map := hm.below hA hm.lt
          lg := ⟨by omega, by simp⟩
          lm := Nat.le_refl _
          ne := by omega
          f3 := free _ (by omega)
          fm := free _ (by omega)
          c0 := by go_simp
          c1 := by go_simp
          c2 := by go_simp
          z1 := by go_simp
          z2 := by go_simp }
end Go.Proofs.Ytkboeldafppicaa
set_option linter.unusedVariables false
set_option linter.unusedSimpArgs false
namespace Go.Proofs.Ytkboeldafppicaa
open Go.RowKit Go.Maps

def zS (st : List Nat) : List Int := st.map Int.ofNat
def zK (kd : Nat → Nat) (st : List Nat) : List Int := st.map (fun t => (kd t : Int))
theorem zS_len (st : List Nat) : (zS st).length = st.length := by simp [zS]
theorem zK_len (kd : Nat → Nat) (st : List Nat) : (zK kd st).length = st.length := by simp [zK]
theorem zS_snoc (st : List Nat) (t : Nat) : zS (st ++ [t]) = zS st ++ [(t : Int)] := by simp [zS]
theorem zK_snoc (kd : Nat → Nat) (st : List Nat) (t : Nat) : zK kd (st ++ [t]) = zK kd st ++ [(kd t : Int)] := by simp [zK]
theorem zS_get {st : List Nat} {i t : Nat} (h : st[i]? = some t) : ((zS st).map (Value.int .i64))[i]? = some (.int .i64 (t : Int)) := by simp [zS, h]
theorem zK_get {kd : Nat → Nat} {st : List Nat} {i t : Nat} (h : (st.map kd)[i]? = some t) : (zK kd st)[i]? = some (t : Int) := by
  unfold zK
  rw [List.getElem?_map] at h ⊢
  cases e : st[i]? with
  | none => rw [e] at h; simp at h
  | some x => rw [e] at h; simp at h; simp [h]
theorem zK_mem {kd : Nat → Nat} {st : List Nat} {t : Nat} : (t : Int) ∈ zK kd st ↔ t ∈ st.map kd := by
  unfold zK
  rw [List.mem_map, List.mem_map]
  constructor
  · rintro ⟨a, h1, h2⟩; exact ⟨a, h1, by omega⟩
  · rintro ⟨a, h1, h2⟩; exact ⟨a, h1, by omega⟩
theorem rpRow_le (L : Nat) (rows : List (List Int)) (kd : Nat → Nat) (s : Nat) (st : List Nat) (c d : Nat) : (rpRow L rows kd s st c).1.length ≤ (rpRow L rows kd s st (c + d)).1.length := by
  induction d with
  | zero => exact Nat.le_refl _
  | succ d ih =>
    rw [← Nat.add_assoc, rpRow]
    split
    · exact ih
    · simp; omega

set_option maxRecDepth 100000 in
set_option maxHeartbeats 4000000 in
theorem rplain_any (L nc ac : Nat) (Na Aa : Option Addr) (rows : List (List Int)) (accs : List Bool) (w : World) (h : MachAt w Na rows Aa accs) (hg : GoodM L rows accs) (hn5 : rows.length ≤ 5000) :
    Calls Try.prog 124 #[machV L Na rows.length nc Aa rows.length ac] w fun e w' => Below w.heap.size w w' ∧ ∃ i Na' nc' Aa' ac', FullC L (mLang L rows accs 0) i ∧ i ≤ rows.length ∧ e = .returned (machV L Na' i nc' Aa' i ac') ∧ MachFrom w' w.heap.size Na' (canon L (mLang L rows accs 0) i).2.1 Aa' (canon L (mLang L rows accs 0) i).2.2 := by
  obtain ⟨i0, hinf, hz0, hz1, hz2⟩ := info_parts int_info
  have hpos := hg.pos
  have hL := hg.hi
  have HG := hid hg
  have hb0 : Below w.heap.size w ((w.alloc (.cells #[.int .i64 (L : Int), .slice Na rows.length nc, .slice Aa rows.length ac] 25)).alloc (.cells #[.int .i64 0, .slice none 0 0, .slice none 0 0] 25)) := ((Below.refl _ _).alloc (Nat.le_refl _) _).alloc (by simp) _
  have HB0 := hid hb0
  have HM0 := hid (h.below hb0)
  have HKc := hid (rKinds_any L nc ac Na Aa rows accs _ HM0.out hg hn5)
  clear h hg hb0
  unfold machV
  unfold machV at HKc
  go_enter Try.func124, Try.ntmps124
  go_wp2_with fail
  refine HKc.out.mono ?_
  rintro e w1 ⟨hb1, K, c, k, rfl, hK, hst⟩
  have HMA := hid (HM0.out.below hb1)
  have HB1 := hid (HB0.out.trans (hb1.mono HB0.out.size))
  obtain ⟨kd, hkd⟩ : ∃ kd, kd = knN L (mN rows) (mA accs) (k + 1) := ⟨_, rfl⟩
  have HKd := hid (show ∀ s t, s < rows.length → t < rows.length → (mLang L rows accs s = mLang L rows accs t ↔ kd s = kd t) from fun s t hs ht => by
    rw [hkd, knN_eq, stable_lang HG.out.cl hst hs ht]; exact Iff.rfl)
  have HKl := hid (show ∀ s, kd s ≤ s from fun s => by rw [hkd]; exact knN_le _ _)
  have HKe := hid (show ∀ j, j < rows.length → ∃ b o, K = some ⟨b, o, none⟩ ∧ w1.cell? ⟨b, o + j, none⟩ = some (.int .i64 (kd j : Int)) from fun j hj => by
    rcases hK.at_ with e | ⟨b, o, hA, hc⟩
    · have h9 := knL_len (L := L) (nx := mN rows) (ac := mA accs) (k + 1) rows.length; rw [e] at h9; simp at h9; omega
    · refine ⟨b, o, hA, ?_⟩
      rw [hc j (by rw [knL_len]; exact hj), knL_get _ _ _ hj, hkd])
  have HCl := hid HG.out.cl
  have HRc := hid (fun i => rpTo_canon (L := L) (accs := accs) HCl.out hpos HKd.out i)
  have HBd := hid (fun i => canon_bound (accs := accs) HCl.out 0 hpos i)
  have hszw : w.heap.size + 2 ≤ w1.heap.size := by have := hb1.size; simp at this; omega
  have m0 : w1.cell? ⟨w.heap.size, 0, none⟩ = some (.int .i64 (L : Int)) := by rw [hb1.cell (by simp; omega)]; go_simp
  have m1 : w1.cell? ⟨w.heap.size, 1, none⟩ = some (.slice Na rows.length nc) := by rw [hb1.cell (by simp; omega)]; go_simp
  have m2 : w1.cell? ⟨w.heap.size, 2, none⟩ = some (.slice Aa rows.length ac) := by rw [hb1.cell (by simp; omega)]; go_simp
  have r0 : w1.cell? ⟨w.heap.size + 1, 0, none⟩ = some (.int .i64 0) := by rw [hb1.cell (by simp)]; go_simp
  have r1 : w1.cell? ⟨w.heap.size + 1, 1, none⟩ = some (.slice none 0 0) := by rw [hb1.cell (by simp)]; go_simp
  have r2 : w1.cell? ⟨w.heap.size + 1, 2, none⟩ = some (.slice none 0 0) := by rw [hb1.cell (by simp)]; go_simp
  have rf : ∀ o, w1.frozen? ⟨w.heap.size + 1, o, none⟩ = false := fun o => by rw [hb1.frozen (by simp)]; go_simp
  have HBox := hid (And.intro m0 (And.intro m1 m2))
  have HRes := hid (And.intro (And.intro r0 (And.intro r1 r2)) rf)
  clear hb1 hK hst hkd HKc HM0 HB0 m1 m2 r0 r1 r2 rf
  obtain ⟨bK, oK, hKa, hk0c⟩ := HKe.out 0 hpos
  subst hKa
  rw [Nat.add_zero] at hk0c
  have lk := cell_lt hk0c
  have hkl := HKl.out 0
  have hk0 := key_int (kd 0 : Int) (by unfold I64; omega)
  have hNM := NumMap.made w1 3
  obtain ⟨w3, hput, hNM3, hgr3⟩ := hNM.store law_int Try.underlying144 hk0 (fun c h => by simp at h) (by decide) 0 (by unfold I64; omega)
  have HO := hid (OutP.init (L := L) (k0 := (kd 0 : Int)) hgr3 hNM3)
  have hmm := @run_makeMap Try.prog
  have hb3 : Below w1.heap.size w1 w3 := ((Below.refl _ w1).alloc (Nat.le_refl _) (.map #[] 0)).grown hgr3 (by simp) (fun k hk => by cases hk; omega)
  have hs3 := hgr3.size
  simp at hs3
  have e0 := (hb3.cell (cell_lt m0)).trans m0
  have hrn : rows.length ≤ 5000 := hn5
  clear hNM hNM3 hgr3 hb3 m0 hkl
  have lw : w.heap.size < w3.heap.size := by omega
  go_wp2
  have HRul := hid (show ∀ w', Below w1.heap.size w1 w' → w'.cell? ⟨w.heap.size, 0, none⟩ = some (.int .i64 (L : Int)) ∧ w'.cell? ⟨w.heap.size, 1, none⟩ = some (.slice Na rows.length nc) ∧ w'.cell? ⟨w.heap.size, 2, none⟩ = some (.slice Aa rows.length ac) from fun w' hb => ⟨(hb.cell (cell_lt HBox.out.1)).trans HBox.out.1, (hb.cell (cell_lt HBox.out.2.1)).trans HBox.out.2.1, (hb.cell (cell_lt HBox.out.2.2)).trans HBox.out.2.2⟩)
  clear e0 hput hmm hk0 hk0c lk HBox
  go_loopg [5, 7] rows.length (fun gk v i wr => ∃ (n : Nat) (vN vA : Value) (rv : List Value), n + gk = rows.length ∧ n ≤ (rpTo L rows accs kd n).1.length ∧ i = .int .i64 (n : Int) ∧ Hid (∀ j, j < n → j < (rpTo L rows accs kd j).1.length) ∧ Hid (OutP w1 wr (w1.heap.size + 1) (w3.heap.size + 1) w1.heap.size L (zS (rpTo L rows accs kd n).1) (zK kd (rpTo L rows accs kd n).1) (rpTo L rows accs kd n).2.1 (rpTo L rows accs kd n).2.2 v vN vA rv))
  case atStart => exact ⟨0, _, _, _, by omega, Nat.zero_le _, rfl, (fun j hj => by omega), HO.out⟩
  case round =>
    clear HO
    obtain ⟨n, vN, vA, rv, hnM, hn, rfl, HJ, HO⟩ := hrel
    obtain ⟨hc1, hc2, hc3⟩ := HRc.out n
    have hbd : (rpTo L rows accs kd n).1.length ≤ rows.length := by have := HBd.out n; rw [← hc1, List.length_map] at this; exact this
    have hbd1 : (rpRow L rows kd ((rpTo L rows accs kd n).1[n]?.getD 0) (rpTo L rows accs kd n).1 L).1.length ≤ rows.length := by have := HBd.out (n + 1); rw [← (HRc.out (n + 1)).1, List.length_map] at this; exact this
    obtain ⟨hr1, hr2⟩ := rpTo_len (L := L) (rows := rows) (accs := accs) (kd := kd) n
    have hpos9 : 0 < (rpTo L rows accs kd n).1.length := by
      have h1 := (List.getElem?_eq_some_iff.1 (listTo_first L dv ep (mLang L rows accs 0) n)).1
      have h2 := congrArg List.length hc1
      rw [List.length_map] at h2
      rw [h2]; exact h1
    obtain ⟨gS, cS, hvS, hgS, hgS2⟩ := HO.out.mem.S.form (by rw [zS_len]; exact hpos9)
    rw [zS_len] at hvS
    subst hvS
    have HSt := hid (show rpTo L rows accs kd (n + 1) = ((rpRow L rows kd ((rpTo L rows accs kd n).1[n]?.getD 0) (rpTo L rows accs kd n).1 L).1, (rpTo L rows accs kd n).2.1 ++ [(rpRow L rows kd ((rpTo L rows accs kd n).1[n]?.getD 0) (rpTo L rows accs kd n).1 L).2], (rpTo L rows accs kd n).2.2 ++ [mA accs ((rpTo L rows accs kd n).1[n]?.getD 0)]) from rfl)
    have HJn := hid (show n < (rpTo L rows accs kd n).1.length → ∀ j, j < n + 1 → j < (rpTo L rows accs kd j).1.length from fun hh j hj => by
      by_cases e : j = n
      · subst e; exact hh
      · exact HJ.out j (by omega))
    have HFu := hid (show n = (rpTo L rows accs kd n).1.length → FullC L (mLang L rows accs 0) n from fun hh => ⟨by have := congrArg List.length hc1; rw [List.length_map] at this; rw [← this]; exact hh, fun j hj => by have := congrArg List.length (HRc.out j).1; rw [List.length_map] at this; rw [← this]; exact HJ.out j hj⟩)
    have HRn := hid (show ∀ r ∈ (rpTo L rows accs kd n).2.1, r.length = L from by rw [hc2]; exact rowTo_rows L dv ep (mLang L rows accs 0) n)
    have HEn := hid (show ∀ r ∈ (rpTo L rows accs kd n).2.1, ∀ x ∈ r, 0 ≤ x ∧ x < (rows.length : Int) from by
      rw [hc2]
      intro r hr x hx
      have h1 := listTo_ent L dv ep (mLang L rows accs 0) n r hr x hx
      have h2 := HBd.out n
      unfold canon at h2
      omega)
    have HCn := hid hc2
    clear hc1 hc2
    generalize hT : rpTo L rows accs kd n = T at *
    have HT := hid hT
    clear hT HJ
    obtain ⟨sts, rs, ac2⟩ := T
    dsimp only at hn hc3 hbd hbd1 hr1 hr2 hpos9 HO HSt HJn HFu HRn HEn HCn
    by_cases hlt3 : n < sts.length
    · obtain ⟨gk', rfl⟩ : ∃ f, gk = f + 1 := ⟨gk - 1, by omega⟩
      have hsm : sts[n]? = some (sts[n]?.getD 0) := by rw [List.getElem?_eq_getElem hlt3]; rfl
      have hsP : sts[n]?.getD 0 < rows.length := hc3 _ (List.mem_of_getElem? hsm)
      generalize hsd : sts[n]?.getD 0 = s at *
      clear hsd
      have HRo := hid (fun c hc => rpRow_canon (accs := accs) HCl.out HKd.out s hsP sts hc3 c hc)
      have HRl := hid (fun c => rpRow_len (L := L) (rows := rows) (kd := kd) s sts c)
      have HRp := hid (fun c => rpRow_pre (L := L) (rows := rows) (kd := kd) s sts c)
      have HRb := hid (show ∀ c, c ≤ L → (rpRow L rows kd s sts c).1.length ≤ rows.length from fun c hc => by
        have := rpRow_le L rows kd s sts c (L - c)
        rw [show c + (L - c) = L by omega] at this
        omega)
      have HSm := hid hsm
      have HSP := hid hsP
      have HJ2 := hid (HJn.out hlt3)
      have HQ := hid (RowQ.nil wr (w1.heap.size + 1) (w3.heap.size + 1) w1.heap.size rs (.slice (some ⟨gS, 0, none⟩) sts.length cS) vN vA rv)
      have hk1 : (n : Int) < (sts.length : Int) := by omega
      have hk0 : (0 : Int) ≤ (n : Int) := by omega
      clear hsm hsP hc3 HFu hbd1 HEn HRn HCn HJn
      go_wp2
      go_loopg [5, 8, 9] L (fun g2 v r i wq => ∃ (c : Nat), c + g2 = L ∧ i = .int .i64 (c : Int) ∧ Hid (OutP w1 wq (w1.heap.size + 1) (w3.heap.size + 1) w1.heap.size L (zS (rpRow L rows kd s sts c).1) (zK kd (rpRow L rows kd s sts c).1) rs ac2 v vN vA rv) ∧ Hid (RowQ wq (w1.heap.size + 1) (w3.heap.size + 1) w1.heap.size r (rpRow L rows kd s sts c).2 rs v vN vA rv))
      case atStart => exact ⟨0, by omega, rfl, HO.out, HQ.out⟩
      case round =>
        clear HO HQ
        obtain ⟨c9, hc9, rfl, HO, HR⟩ := hrel
        obtain ⟨q1, q2, q3⟩ := HRo.out c9 (by omega)
        have hrl := HRl.out c9
        have hpre := HRp.out c9
        have hlb := HRb.out c9 (by omega)
        have HNx := hid (show rpRow L rows kd s sts (c9 + 1) = if kd (mN rows s c9) ∈ (rpRow L rows kd s sts c9).1.map kd then ((rpRow L rows kd s sts c9).1, (rpRow L rows kd s sts c9).2 ++ [((((rpRow L rows kd s sts c9).1.map kd).idxOf (kd (mN rows s c9)) : Nat) : Int)]) else ((rpRow L rows kd s sts c9).1 ++ [mN rows s c9], (rpRow L rows kd s sts c9).2 ++ [(((rpRow L rows kd s sts c9).1.length : Nat) : Int)]) from rfl)
        clear q1 q2
        generalize hU : rpRow L rows kd s sts c9 = U at *
        have HU := hid hU
        clear hU
        obtain ⟨st1, row1⟩ := U
        dsimp only at q3 hrl hpre hlb HO HR HNx
        have hk1s : st1[n]? = some s := by
          obtain ⟨tl, rfl⟩ := hpre
          rw [List.getElem?_append_left hlt3]; exact HSm.out
        have hk1l : n < st1.length := (List.getElem?_eq_some_iff.1 hk1s).1
        obtain ⟨gT, cT, hvT, hgT, hgT2⟩ := HO.out.mem.S.form (by rw [zS_len]; omega)
        rw [zS_len] at hvT
        subst hvT
        have c0 : wr.cell? ⟨gT, n, none⟩ = some (.int .i64 (s : Int)) := by
          have hS := HO.out.mem.S
          rw [zS_len] at hS
          rw [hS.cellAt _ (by omega)]; exact zS_get hk1s
        have hB := HO.out.mem.bel
        obtain ⟨b0, b1, b2⟩ := HRul.out wr hB
        clear hpre
        by_cases hcL : c9 < L
        · obtain ⟨g2', rfl⟩ : ∃ f, gk = f + 1 := ⟨gk - 1, by omega⟩
          obtain ⟨he1, he2⟩ := HG.out.ent s c9 HSP.out hcL
          have hrow := HG.out.row s HSP.out
          obtain ⟨bN, oN, gB, o3, kk, hNa, g3, g4, _⟩ := (HMA.out.below hB).row s c9 HSP.out (by rw [hrow]; exact hcL)
          rw [he2] at g4
          rw [hrow] at g3
          obtain ⟨bK2, oK2, hKa, g5'⟩ := HKe.out (mN rows s c9) he1
          have g5 := (hB.cell (cell_lt g5')).trans g5'
          have hkl := HKl.out (mN rows s c9)
          have hkey := key_int (kd (mN rows s c9) : Int) (by unfold I64; omega)
          simp only [Option.some.injEq, Addr.mk.injEq, and_true] at hKa
          obtain ⟨rfl, rfl⟩ := hKa
          subst hNa
          have hci : (c9 : Int) < (L : Int) := by omega
          have hc0 : (0 : Int) ≤ (c9 : Int) := by omega
          have hs1 : (s : Int) < (rows.length : Int) := by have := HSP.out; omega
          have hs0 : (0 : Int) ≤ (s : Int) := by omega
          have ht0 : (0 : Int) ≤ (mN rows s c9 : Int) := by omega
          have hn1 : (n : Int) < (st1.length : Int) := by omega
          have ht1 : (mN rows s c9 : Int) < (rows.length : Int) := by omega
          clear he2 hrow g5' hB b2
          have HT1 := hid he1
          have hrl2 : row1.length ≤ L := by omega
          clear he1 hrl
          have hq0 : ∀ nq, Below wr.heap.size wr (wr.drewN nq) := fun nq => ⟨(Below.refl wr.heap.size wr).os, (Below.refl wr.heap.size wr).tape, (Below.refl wr.heap.size wr).output, (Below.refl wr.heap.size wr).size, (Below.refl wr.heap.size wr).block⟩
          generalize htt : mN rows s c9 = t at *
          clear htt
          have hLL : L ≤ 140737488355328 := by omega
          go_wp2_with fail
          go_quiet (fail)
          have hq := hq0 nq
          clear hq0
          generalize wr.drewN nq = wd at *
          have HO1 := hid (HO.out.below hq)
          have HR1 := hid (HR.out.below hq)
          have g5 := (hq.cell (cell_lt g5)).trans g5
          have lk := cell_lt g5
          have hlgw := HO1.out.map.lt
          clear HO HR hq b0 b1 c0 g3 g4
          by_cases hin : kd t ∈ st1.map kd
          · have HNy := hid (HNx.out.trans (if_pos hin))
            have hjl0 := List.idxOf_lt_length_iff.2 hin
            have hj : (st1.map kd)[(st1.map kd).idxOf (kd t)]? = some (kd t) := by rw [List.getElem?_eq_getElem hjl0, List.getElem_idxOf hjl0]
            have hjl : (st1.map kd).idxOf (kd t) < st1.length := by simpa using hjl0
            clear hjl0
            generalize (st1.map kd).idxOf (kd t) = j at *
            have hmem : (VIo (kd t : Int), (j : Int)) ∈ numbL VIo (zK kd st1) := (numbL_mem VIo VIo_inj _ _ _).2 ⟨j, rfl, zK_get hj⟩
            obtain ⟨hl1, hl2⟩ := HO1.out.map.lookYes law_int Try.underlying144 hkey (j : Int) hmem
            have hA5 : Below wd.heap.size wd (wd.alloc (.cells #[.int .i64 (j : Int)] 3)) := (Below.refl _ _).alloc (Nat.le_refl _) _
            have HO6 := hid (HO1.out.below hA5)
            have HR6 := hid (HR1.out.below hA5)
            have hR6 := HR6.out.own
            have hBw := HO1.out.mem.hBw
            clear hmem hin hj HNx hA5 HO1 HR1
            go_wp2_with (at_builtin; refine wpList_append_lies _ rfl _ _ 26 rfl (w1.heap.size + 1) 3 i0 (.int .i64 0) 1 8 Try.underlying26 hinf hz0 hz1 hz2 rfl (by decide) _ row1.length (row1.map (Value.int .i64)) rfl hR6 ⟨wd.heap.size, 0, none⟩ 1 1 [.int .i64 (j : Int)] rfl rfl (World.news_of_block (cs := #[.int .i64 (j : Int)]) (t := 3) (fr := (0, 0)) (heap_alloc_new wd _)) (by simp [Value.oneCell']) (by decide) (by unfold maxLen; omega) (by omega) (by simp; omega) _ rfl ?_)
            intro gU cU w6 hown6 hgr6 hat6 hlt6
            have hsz9 : (wd.alloc (.cells #[.int .i64 (j : Int)] 3)).heap.size = wd.heap.size + 1 := by simp
            have hloc := lies_loc (n := row1.length + 1) (c := cU) hat6
            rw [← hsz9] at hloc
            clear hsz9
            obtain ⟨hR7, hO7⟩ := HR6.out.app HO6.out hown6 hgr6 hloc
            have HO7 := hid hO7
            have HR7 := hid hR7
            clear hR7 hO7 hown6 hgr6 hat6 hlt6 hloc hR6 HO6 HR6
            go_wp2
            go_roundg g2'
            case rel => exact ⟨c9 + 1, by omega, by go_num, by rw [HNy.out]; exact HO7.out, by rw [HNy.out]; exact HR7.out⟩
            all_goals omega
          · have HNy := hid (HNx.out.trans (if_neg hin))
            have hnol : ∀ c, (VIo (kd t : Int), c) ∉ numbL VIo (zK kd st1) := fun c hc => by
              obtain ⟨i, _, hi⟩ := (numbL_mem VIo VIo_inj _ _ _).1 hc
              exact hin (zK_mem.1 (List.mem_of_getElem? hi))
            obtain ⟨v9, hl1⟩ := HO1.out.map.lookNo law_int Try.underlying144 hkey hnol
            obtain ⟨w5, hput, hNM5, hgr5⟩ := HO1.out.map.store law_int Try.underlying144 hkey hnol (by rw [numbL_len, zK_len]; unfold maxLen; omega) (st1.length : Int) (by unfold I64; omega)
            have hNM5' : NumMap w5 3 w1.heap.size (numbL VIo (zK kd (st1 ++ [t]))) := by rw [zK_snoc, numbL_snoc, zK_len]; exact hNM5
            have HO5 := hid (HO1.out.put hgr5 hNM5')
            have HR5 := hid (HR1.out.grown hgr5 (fun q hq hh => (HR1.out.free q hh).2.2 (Option.some.inj hq).symm))
            have hBw5 := HO5.out.mem.hBw
            have hA5 : Below w5.heap.size w5 (w5.alloc (.cells #[.int .i64 (t : Int)] 3)) := (Below.refl _ _).alloc (Nat.le_refl _) _
            have HO6 := hid (HO5.out.below hA5)
            have HR6 := hid (HR5.out.below hA5)
            have hS6 := HO6.out.mem.S
            rw [zS_len] at hS6
            clear hNM5 hgr5 hNM5' hA5 hnol hin HO1 HR1 HO5 HR5
            go_wp2_with (at_builtin; refine wpList_append_lies _ rfl _ _ 26 rfl (w1.heap.size + 1) 3 i0 (.int .i64 0) 1 8 Try.underlying26 hinf hz0 hz1 hz2 rfl (by decide) _ st1.length ((zS st1).map (Value.int .i64)) rfl hS6 ⟨w5.heap.size, 0, none⟩ 1 1 [.int .i64 (t : Int)] rfl rfl (World.news_of_block (cs := #[.int .i64 (t : Int)]) (t := 3) (fr := (0, 0)) (heap_alloc_new w5 _)) (by simp [Value.oneCell']) (by decide) (by unfold maxLen; omega) (by omega) (by simp; omega) _ rfl ?_)
            intro gU cU w6 hown6 hgr6 hat6 hlt6
            have hsz9 : (w5.alloc (.cells #[.int .i64 (t : Int)] 3)).heap.size = w5.heap.size + 1 := by simp
            have hloc := lies_loc (n := st1.length + 1) (c := cU) hat6
            rw [← hsz9] at hloc
            clear hsz9
            have hO7 := HO6.out.appS (t := (t : Int)) (by rw [zS_len]; exact hown6) hgr6 hloc (by simp [Value.ownBlock])
            rw [← zS_snoc] at hO7
            have HO7 := hid hO7
            have HR7 := hid (HR6.out.appS hgr6 hloc)
            have hsz6 := hgr6.size
            simp at hsz6
            have hA7 : Below w6.heap.size w6 (w6.alloc (.cells #[.int .i64 (st1.length : Int)] 3)) := (Below.refl _ _).alloc (Nat.le_refl _) _
            have HO8 := hid (HO7.out.below hA7)
            have HR8 := hid (HR7.out.below hA7)
            have hR8 := HR8.out.own
            have hBw6 := HO7.out.mem.hBw
            clear hO7 hown6 hgr6 hat6 hlt6 hloc hS6 HO6 HR6 hA7 HO7 HR7
            go_wp2_with (at_builtin; refine wpList_append_lies _ rfl _ _ 26 rfl (w1.heap.size + 1) 3 i0 (.int .i64 0) 1 8 Try.underlying26 hinf hz0 hz1 hz2 rfl (by decide) _ row1.length (row1.map (Value.int .i64)) rfl hR8 ⟨w6.heap.size, 0, none⟩ 1 1 [.int .i64 (st1.length : Int)] rfl rfl (World.news_of_block (cs := #[.int .i64 (st1.length : Int)]) (t := 3) (fr := (0, 0)) (heap_alloc_new w6 _)) (by simp [Value.oneCell']) (by decide) (by unfold maxLen; omega) (by omega) (by simp; omega) _ rfl ?_)
            intro gV cV w7 hown7 hgr7 hat7 hlt7
            have hsz9 : (w6.alloc (.cells #[.int .i64 (st1.length : Int)] 3)).heap.size = w6.heap.size + 1 := by simp
            have hloc := lies_loc (n := row1.length + 1) (c := cV) hat7
            rw [← hsz9] at hloc
            clear hsz9
            obtain ⟨hR9, hO9⟩ := HR8.out.app HO8.out hown7 hgr7 hloc
            have HO9 := hid hO9
            have HR9 := hid hR9
            clear hR9 hO9 hown7 hgr7 hat7 hlt7 hloc hR8 HO8 HR8 hput hl1
            go_wp2
            go_roundg g2'
            case rel => exact ⟨c9 + 1, by omega, by go_num, by rw [HNy.out]; exact HO9.out, by rw [HNy.out]; exact HR9.out⟩
            all_goals omega
        · obtain rfl : L = c9 := by omega
          obtain ⟨j0, hjnf, hy0, hy1, hy2⟩ := info_parts row_info
          obtain ⟨j3, hjnf3, hx0, hx1, hx2⟩ := info_parts boolM_info
          have hlo := HG.out.lo
          obtain ⟨gr, cr, hvr, hgr, hgr2⟩ := HR.out.own.form (by omega)
          subst hvr
          have HFr := hid (HR.out.free gr rfl)
          have hrs : rs.length ≤ 5000 := by omega
          have has : ac2.length ≤ 5000 := by omega
          have hLf : ¬ (L : Int) < (L : Int) := by omega
          have HR12 := hid (And.intro hr1 (And.intro hr2 hrl))
          have hA : Below wr.heap.size wr (wr.alloc (.cells #[.slice (some ⟨gr, 0, none⟩) row1.length cr] 26)) := (Below.refl _ _).alloc (Nat.le_refl _) _
          have HO1 := hid (HO.out.below hA)
          have HR1 := hid (HR.out.below hA)
          have hN1 := HO1.out.mem.N
          have hBw1 := HO1.out.mem.hBw
          have hN0 := HO.out.c1
          have hSn : (Value.slice (some ⟨gT, 0, none⟩) st1.length cT).ownBlock ≠ none := by simp [Value.ownBlock]
          have hrw := HR1.out.own
          clear c0 b1 hA hB hr1 hr2 hrl hlo
          go_wp2_with (at_builtin; refine wpList_append_lies _ rfl _ _ 22 rfl (w1.heap.size + 1) 26 j0 (.slice none 0 0) 1 24 Try.underlying22 hjnf hy0 hy1 hy2 rfl (by decide) vN rs.length rv rfl hN1 ⟨wr.heap.size, 0, none⟩ 1 1 [.slice (some ⟨gr, 0, none⟩) row1.length cr] rfl rfl (World.news_of_block (cs := #[.slice (some ⟨gr, 0, none⟩) row1.length cr]) (t := 26) (fr := (0, 0)) (heap_alloc_new wr _)) (by simp [Value.oneCell']) (by decide) (by unfold maxLen; omega) (by omega) (by simp; omega) _ rfl ?_)
          intro gU cU wN hownN hgrN hatN hltN
          have hsz9 : (wr.alloc (.cells #[.slice (some ⟨gr, 0, none⟩) row1.length cr] 26)).heap.size = wr.heap.size + 1 := by simp
          have hloc := lies_loc (n := rs.length + 1) (c := cU) hatN
          rw [← hsz9] at hloc
          clear hsz9
          have k1c := (grown_cell hgrN (cell_lt HO1.out.c1) (HO1.out.f3.2.1)).trans HO1.out.c1
          have k1f := (grown_frozen hgrN (p := ⟨w3.heap.size + 1, 1, none⟩) (cell_lt HO1.out.c1) (HO1.out.f3.2.1)).trans HO1.out.z1
          have HO3 := hid (HO1.out.pushN hownN hgrN hloc hrw ⟨gr, cr, rfl, HFr.out.1⟩ (by simp only [Value.ownBlock, ne_eq, Option.some.injEq]; exact HFr.out.2.1) (by simp only [Value.ownBlock, ne_eq, Option.some.injEq]; exact HFr.out.2.2) hSn)
          clear hownN hgrN hatN hltN hloc hrw hSn hN1 hN0 HR HR1 HO1 HO
          go_upto_region 20 with (fail)
          have HSt2 := hid (show rpTo L rows accs kd (n + 1) = (st1, rs ++ [row1], ac2 ++ [mA accs s]) from by
            have := HSt.out
            rw [HU.out] at this
            exact this)
          clear k1c k1f b0 b2 HNx HU HRo HRl HRp HRb hLf
          generalize wN.setCell ⟨w3.heap.size + 1, 1, none⟩ (.slice (some ⟨gU, 0, none⟩) (rs.length + 1) cU) = wq at *
          have hBq := HO3.out.mem.bel
          obtain ⟨_, _, b2⟩ := HRul.out wq hBq
          have c0 : wq.cell? ⟨gT, n, none⟩ = some (.int .i64 (s : Int)) := by
            have hS := HO3.out.mem.S
            rw [zS_len] at hS
            rw [hS.cellAt _ (by omega)]; exact zS_get hk1s
          have hMr := HMA.out.below hBq
          rcases hMr.aat with e | ⟨bA, oA, hAa, hca⟩
          · have h9 := HG.out.acc; rw [e] at h9; rw [← h9] at hpos; simp at hpos
          have a0 := hca s (by rw [HG.out.acc]; exact HSP.out)
          rw [show accs[s]?.getD false = mA accs s from rfl] at a0
          have la : bA < w1.heap.size := by
            rcases HMA.out.aat with e | ⟨bA', oA', hAa', hca'⟩
            · have h9 := HG.out.acc; rw [e] at h9; rw [← h9] at hpos; simp at hpos
            · rw [hAa'] at hAa
              simp only [Option.some.injEq, Addr.mk.injEq, and_true] at hAa
              obtain ⟨rfl, rfl⟩ := hAa
              exact cell_lt (hca' s (by rw [HG.out.acc]; exact HSP.out))
          subst hAa
          clear hca hMr
          generalize hba : mA accs s = ba at *
          clear hba
          have c2v := HO3.out.c2
          have z2v := HO3.out.z2
          have hlgq := HO3.out.lg.2
          have hBwq := HO3.out.mem.hBw
          have hs1 : (s : Int) < (rows.length : Int) := by have := HSP.out; omega
          have hs0 : (0 : Int) ≤ (s : Int) := by omega
          have hn1 : (n : Int) < (st1.length : Int) := by omega
          have HsaT := hid (show vA.ownBlock ≠ some gT from fun hh => HO3.out.mem.SA (by rw [hh]; rfl))
          have HlW := hid ((HO3.out.mem.low w.heap.size (by omega)).2.2.1)
          have HlA := hid ((HO3.out.mem.low bA (by omega)).2.2.1)
          have hneT : w3.heap.size + 1 ≠ gT := fun hh => HO3.out.f3.1 (by rw [hh]; rfl)
          have hneW : w3.heap.size + 1 ≠ w.heap.size := by omega
          have hneA : w3.heap.size + 1 ≠ bA := by omega
          have hr0 : Below wq.heap.size wq wq := Below.refl _ _
          have HKp := hid (fun w' (hb : Below wq.heap.size wq w') => (show w'.cell? ⟨w.heap.size, 2, none⟩ = some (.slice (some ⟨bA, oA, none⟩) rows.length ac) ∧ w'.cell? ⟨gT, n, none⟩ = some (.int .i64 (s : Int)) ∧ w'.cell? ⟨bA, oA + s, none⟩ = some (.bool ba) from
            ⟨(hb.cell (cell_lt b2)).trans b2, (hb.cell (cell_lt c0)).trans c0, (hb.cell (cell_lt a0)).trans a0⟩))
          have HKg := hid (fun wx w' (hb : Below wq.heap.size wq wx) (hg : wx.grownBy w' vA.ownBlock) => (show w'.cell? ⟨w.heap.size, 2, none⟩ = some (.slice (some ⟨bA, oA, none⟩) rows.length ac) ∧ w'.cell? ⟨gT, n, none⟩ = some (.int .i64 (s : Int)) ∧ w'.cell? ⟨bA, oA + s, none⟩ = some (.bool ba) from by
            obtain ⟨g1, g2, g3⟩ := HKp.out wx hb
            exact ⟨(grown_cell hg (cell_lt g1) HlW.out).trans g1, (grown_cell hg (cell_lt g2) HsaT.out).trans g2, (grown_cell hg (cell_lt g3) HlA.out).trans g3⟩))
          have HKs := hid (fun wx w' u (hb : Below wq.heap.size wq wx) (hg : wx.grownBy w' vA.ownBlock) => (show (w'.setCell ⟨w3.heap.size + 1, 2, none⟩ u).cell? ⟨w.heap.size, 2, none⟩ = some (.slice (some ⟨bA, oA, none⟩) rows.length ac) ∧ (w'.setCell ⟨w3.heap.size + 1, 2, none⟩ u).cell? ⟨gT, n, none⟩ = some (.int .i64 (s : Int)) ∧ (w'.setCell ⟨w3.heap.size + 1, 2, none⟩ u).cell? ⟨bA, oA + s, none⟩ = some (.bool ba) from by
            obtain ⟨g1, g2, g3⟩ := HKg.out wx w' hb hg
            exact ⟨(World.cell?_setCell_other _ _ _ _ (by simp only [ne_eq, Addr.mk.injEq]; omega)).trans g1, (World.cell?_setCell_other _ _ _ _ (by simp only [ne_eq, Addr.mk.injEq]; omega)).trans g2, (World.cell?_setCell_other _ _ _ _ (by simp only [ne_eq, Addr.mk.injEq]; omega)).trans g3⟩))
          clear b2 c0 a0 hBq q3 hk1s HSm
          refine wp_region_held_drew (S := (fun w' => w'.cell? ⟨w.heap.size, 2, none⟩ = some (.slice (some ⟨bA, oA, none⟩) rows.length ac) ∧ w'.cell? ⟨gT, n, none⟩ = some (.int .i64 (s : Int)) ∧ w'.cell? ⟨bA, oA + s, none⟩ = some (.bool ba))) (by kernel_rfl) (HKp.out _ hr0.drew) (fun hHeld => ?_)
          refine take_d (i := 0) (d := some 80) (v := ?_) rfl rfl (by kernel_rfl) (by kernel_rfl) (by kernel_rfl) (fun _ _ _ h => h) (Or.inl ⟨by first | rfl | (simp [*, Region.wanted, yielded]), ?hym1⟩) (by assumption) ?restm1
          case hym1 => (intro w hSw; (try dsimp only at hSw); go_simp <;> with_reducible rfl)
          try simp only [Act.put, List.setIfInBounds_toArray, List.set_cons_zero, List.set_cons_succ]
          refine take_d (i := 2) (d := some 82) (v := ?_) rfl rfl (by kernel_rfl) (by kernel_rfl) (by kernel_rfl) (fun _ _ _ h => h) (Or.inl ⟨by first | rfl | (simp [*, Region.wanted, yielded]), ?hym2⟩) (by assumption) ?restm2
          case hym2 => (intro w hSw; (try dsimp only at hSw); go_simp <;> with_reducible rfl)
          try simp only [Act.put, List.setIfInBounds_toArray, List.set_cons_zero, List.set_cons_succ]
          refine take_d (i := 3) (d := some 83) (v := ?_) rfl rfl (by kernel_rfl) (by kernel_rfl) (by kernel_rfl) (fun _ _ _ h => h) (Or.inl ⟨by first | rfl | (simp [*, Region.wanted, yielded]), ?hym3⟩) (by assumption) ?restm3
          case hym3 => (intro w hSw; (try dsimp only at hSw); go_simp <;> with_reducible rfl)
          try simp only [Act.put, List.setIfInBounds_toArray, List.set_cons_zero, List.set_cons_succ]
          refine take_d (i := 4) (d := some 84) (v := ?_) rfl rfl (by kernel_rfl) (by kernel_rfl) (by kernel_rfl) (fun _ _ _ h => h) (Or.inl ⟨by first | rfl | (simp [*, Region.wanted, yielded]), ?hym4⟩) (by assumption) ?restm4
          case hym4 => (intro w hSw; (try dsimp only at hSw); go_simp <;> with_reducible rfl)
          try simp only [Act.put, List.setIfInBounds_toArray, List.set_cons_zero, List.set_cons_succ]
          refine take_d (i := 5) (d := some 85) (v := ?_) rfl rfl (by kernel_rfl) (by kernel_rfl) (by kernel_rfl) (fun _ _ _ h => h) (Or.inl ⟨by first | rfl | (simp [*, Region.wanted, yielded]), ?hym5⟩) (by assumption) ?restm5
          case hym5 => (intro w hSw; (try dsimp only at hSw); go_simp <;> with_reducible rfl)
          try simp only [Act.put, List.setIfInBounds_toArray, List.set_cons_zero, List.set_cons_succ]
          refine take_d (i := 6) (d := some 86) (v := ?_) rfl rfl (by kernel_rfl) (by kernel_rfl) (by kernel_rfl) (fun _ _ _ h => h) (Or.inl ⟨by first | rfl | (simp [*, Region.wanted, yielded]), ?hym6⟩) (by assumption) ?restm6
          case hym6 => (intro w hSw; (try dsimp only at hSw); go_simp <;> with_reducible rfl)
          try simp only [Act.put, List.setIfInBounds_toArray, List.set_cons_zero, List.set_cons_succ]
          refine take_d (i := 7) (d := some 87) (v := ?_) rfl rfl (by kernel_rfl) (by kernel_rfl) (by kernel_rfl) (fun _ _ _ h => h) (Or.inl ⟨by first | rfl | (simp [*, Region.wanted, yielded]), ?hym7⟩) (by assumption) ?restm7
          case hym7 => (intro w hSw; (try dsimp only at hSw); go_simp <;> with_reducible rfl)
          try simp only [Act.put, List.setIfInBounds_toArray, List.set_cons_zero, List.set_cons_succ]
          refine take_d (i := 8) (d := some 88) (v := ?_) rfl rfl (by kernel_rfl) (by kernel_rfl) (by kernel_rfl) (fun _ _ _ h => h) (Or.inl ⟨by first | rfl | (simp [*, Region.wanted, yielded]), ?hym8⟩) (by assumption) ?restm8
          case hym8 => (intro w hSw; (try dsimp only at hSw); go_simp <;> with_reducible rfl)
          try simp only [Act.put, List.setIfInBounds_toArray, List.set_cons_zero, List.set_cons_succ]
          refine take_d (i := 9) (d := some 89) (v := ?_) rfl rfl (by kernel_rfl) (by kernel_rfl) (by kernel_rfl) (fun _ _ _ h => h) (Or.inl ⟨by first | rfl | (simp [*, Region.wanted, yielded]), ?hym9⟩) (by assumption) ?restm9
          case hym9 => (intro w hSw; (try dsimp only at hSw); go_simp <;> with_reducible rfl)
          try simp only [Act.put, List.setIfInBounds_toArray, List.set_cons_zero, List.set_cons_succ]
          refine wpAnyH_ready (rs := [1, 10]) (by kernel_rfl) (by simp) ?_
          refine AllReadyH.cons (o := _) rfl (fun K hK => ?_) (AllReadyH.cons (o := _) rfl (fun K hK => ?_) AllReadyH.nil)
          · go_simp
            go_wp2_with fail
            refine hK.out _ _ (HKp.out _ (by repeat (first | exact hr0 | apply Below.drew | (refine Below.alloc ?_ (by first | exact Below.size (by assumption) | omega | (simp; done) | (simp; omega)) _)))) (fun hHeld => ?_)
            clear hK K
            try simp only [Act.put, List.setIfInBounds_toArray, List.set_cons_zero, List.set_cons_succ]
            refine wpAnyH_ready (rs := [10]) (by kernel_rfl) (by simp) ?_
            refine AllReadyH.cons (o := _) rfl (fun K hK => ?_) AllReadyH.nil
            go_simp
            go_wp2_with fail
            refine hK.out _ _ (HKp.out _ (by repeat (first | exact hr0 | apply Below.drew | (refine Below.alloc ?_ (by first | exact Below.size (by assumption) | omega | (simp; done) | (simp; omega)) _)))) (fun hHeld => ?_)
            clear hK K
            try simp only [Act.put, List.setIfInBounds_toArray, List.set_cons_zero, List.set_cons_succ]
            refine wpAnyH_ready (rs := [11]) (by kernel_rfl) (by simp) ?_
            refine AllReadyH.cons (o := _) rfl (fun K hK => ?_) AllReadyH.nil
            have p8 : Below wq.heap.size wq wq.drew := hr0.drew
            have HO8 := hid (HO3.out.below (p8.alloc p8.size (.cells #[.bool ba] 4)))
            have hA8 := HO8.out.mem.A
            have hsz8 : wq.drew.heap.size = wq.heap.size := rfl
            refine step_append_lies _ rfl _ _ 23 rfl (w1.heap.size + 1) 4 j3 (.bool false) 1 1 Try.underlying23 hjnf3 hx0 hx1 hx2 rfl (by decide) vA ac2.length (ac2.map Value.bool) (by rfl) (by exact hA8) ⟨wq.drew.heap.size, 0, none⟩ 1 1 [.bool ba] (by rfl) rfl (World.news_of_block (cs := #[.bool ba]) (t := 4) (fr := (0, 0)) (heap_alloc_new wq.drew _)) (by simp [Value.oneCell']) (by decide) (by unfold maxLen; omega) (by omega) (by simp; omega) _ rfl ?_
            intro gV cV w9 hown9 hgr9 hat9 hlt9
            have HO9 := hid (HO8.out.pushA hown9 hgr9 (lies_loc (n := ac2.length + 1) (c := cV) hat9))
            have x9 := (grown_cell hgr9 (cell_lt HO8.out.c2) (HO8.out.f3.2.2.1)).trans HO8.out.c2
            have f9 := (grown_frozen hgr9 (p := ⟨w3.heap.size + 1, 2, none⟩) (cell_lt HO8.out.c2) (HO8.out.f3.2.2.1)).trans HO8.out.z2
            refine hK.out _ _ (HKg.out _ _ (p8.alloc p8.size _) hgr9) (fun hHeld => ?_)
            clear hK K
            try simp only [Act.put, List.setIfInBounds_toArray, List.set_cons_zero, List.set_cons_succ]
            refine take_d (i := 12) (d := some 92) (v := ?_) rfl rfl (by kernel_rfl) (by kernel_rfl) (by kernel_rfl) (fun _ _ _ h => h) (Or.inl ⟨by first | rfl | (simp [*, Region.wanted, yielded]), ?hym10⟩) (by assumption) ?restm10
            case hym10 => (intro w hSw; (try dsimp only at hSw); go_simp <;> with_reducible rfl)
            try simp only [Act.put, List.setIfInBounds_toArray, List.set_cons_zero, List.set_cons_succ]
            refine wpAnyH_ready (rs := [13]) (by kernel_rfl) (by simp) ?_
            refine AllReadyH.cons (o := _) rfl (fun K hK => ?_) AllReadyH.nil
            go_simp
            go_wp2_with fail
            refine hK.out _ _ (HKs.out _ _ _ (p8.alloc p8.size _) hgr9) (fun hHeld => ?_)
            clear hK K
            try simp only [Act.put, List.setIfInBounds_toArray, List.set_cons_zero, List.set_cons_succ]
            refine wpAnyH_done (by kernel_rfl) ?_ _
            go_simp
            clear hown9 hgr9 hat9 hlt9 x9 f9 hA8 hHeld p8
            have hkM2 := hnM
            go_wp2
            go_roundg gk'
            case rel => exact ⟨n + 1, _, _, _, by omega, by rw [HSt2.out]; exact hk1l, by go_num, HJ2, by rw [HSt2.out]; exact HO9⟩
            all_goals omega
          · go_simp
            go_wp2_with fail
            refine hK.out _ _ (HKp.out _ (by repeat (first | exact hr0 | apply Below.drew | (refine Below.alloc ?_ (by first | exact Below.size (by assumption) | omega | (simp; done) | (simp; omega)) _)))) (fun hHeld => ?_)
            clear hK K
            try simp only [Act.put, List.setIfInBounds_toArray, List.set_cons_zero, List.set_cons_succ]
            refine wpAnyH_ready (rs := [1]) (by kernel_rfl) (by simp) ?_
            refine AllReadyH.cons (o := _) rfl (fun K hK => ?_) AllReadyH.nil
            go_simp
            go_wp2_with fail
            refine hK.out _ _ (HKp.out _ (by repeat (first | exact hr0 | apply Below.drew | (refine Below.alloc ?_ (by first | exact Below.size (by assumption) | omega | (simp; done) | (simp; omega)) _)))) (fun hHeld => ?_)
            clear hK K
            try simp only [Act.put, List.setIfInBounds_toArray, List.set_cons_zero, List.set_cons_succ]
            refine wpAnyH_ready (rs := [11]) (by kernel_rfl) (by simp) ?_
            refine AllReadyH.cons (o := _) rfl (fun K hK => ?_) AllReadyH.nil
            have p8 : Below wq.heap.size wq wq.drew := hr0.drew
            have HO8 := hid (HO3.out.below (p8.alloc p8.size (.cells #[.bool ba] 4)))
            have hA8 := HO8.out.mem.A
            have hsz8 : wq.drew.heap.size = wq.heap.size := rfl
            refine step_append_lies _ rfl _ _ 23 rfl (w1.heap.size + 1) 4 j3 (.bool false) 1 1 Try.underlying23 hjnf3 hx0 hx1 hx2 rfl (by decide) vA ac2.length (ac2.map Value.bool) (by rfl) (by exact hA8) ⟨wq.drew.heap.size, 0, none⟩ 1 1 [.bool ba] (by rfl) rfl (World.news_of_block (cs := #[.bool ba]) (t := 4) (fr := (0, 0)) (heap_alloc_new wq.drew _)) (by simp [Value.oneCell']) (by decide) (by unfold maxLen; omega) (by omega) (by simp; omega) _ rfl ?_
            intro gV cV w9 hown9 hgr9 hat9 hlt9
            have HO9 := hid (HO8.out.pushA hown9 hgr9 (lies_loc (n := ac2.length + 1) (c := cV) hat9))
            have x9 := (grown_cell hgr9 (cell_lt HO8.out.c2) (HO8.out.f3.2.2.1)).trans HO8.out.c2
            have f9 := (grown_frozen hgr9 (p := ⟨w3.heap.size + 1, 2, none⟩) (cell_lt HO8.out.c2) (HO8.out.f3.2.2.1)).trans HO8.out.z2
            refine hK.out _ _ (HKg.out _ _ (p8.alloc p8.size _) hgr9) (fun hHeld => ?_)
            clear hK K
            try simp only [Act.put, List.setIfInBounds_toArray, List.set_cons_zero, List.set_cons_succ]
            refine take_d (i := 12) (d := some 92) (v := ?_) rfl rfl (by kernel_rfl) (by kernel_rfl) (by kernel_rfl) (fun _ _ _ h => h) (Or.inl ⟨by first | rfl | (simp [*, Region.wanted, yielded]), ?hym11⟩) (by assumption) ?restm11
            case hym11 => (intro w hSw; (try dsimp only at hSw); go_simp <;> with_reducible rfl)
            try simp only [Act.put, List.setIfInBounds_toArray, List.set_cons_zero, List.set_cons_succ]
            refine wpAnyH_ready (rs := [13]) (by kernel_rfl) (by simp) ?_
            refine AllReadyH.cons (o := _) rfl (fun K hK => ?_) AllReadyH.nil
            go_simp
            go_wp2_with fail
            refine hK.out _ _ (HKs.out _ _ _ (p8.alloc p8.size _) hgr9) (fun hHeld => ?_)
            clear hK K
            try simp only [Act.put, List.setIfInBounds_toArray, List.set_cons_zero, List.set_cons_succ]
            refine wpAnyH_done (by kernel_rfl) ?_ _
            go_simp
            clear hown9 hgr9 hat9 hlt9 x9 f9 hA8 hHeld p8
            have hkM2 := hnM
            go_wp2
            go_roundg gk'
            case rel => exact ⟨n + 1, _, _, _, by omega, by rw [HSt2.out]; exact hk1l, by go_num, HJ2, by rw [HSt2.out]; exact HO9⟩
            all_goals omega
    · have hkE : n = sts.length := by omega
      have HF := hid (HFu.out hkE)
      have hlo := HG.out.lo
      subst hkE
      obtain ⟨⟨r0c, r1c, r2c⟩, r0f⟩ := HRes.out
      have hb := HO.out.mem.bel
      have z0 := (hb.cell (cell_lt r0c)).trans r0c
      have z1 := (hb.cell (cell_lt r1c)).trans r1c
      have z2 := (hb.cell (cell_lt r2c)).trans r2c
      have y0 := (hb.frozen (p := ⟨w.heap.size + 1, 0, none⟩) (cell_lt r0c)).trans (r0f 0)
      have y1 := (hb.frozen (p := ⟨w.heap.size + 1, 1, none⟩) (cell_lt r1c)).trans (r0f 1)
      have y2 := (hb.frozen (p := ⟨w.heap.size + 1, 2, none⟩) (cell_lt r2c)).trans (r0f 2)
      have c0 := HO.out.c0
      have c1 := HO.out.c1
      have c2 := HO.out.c2
      obtain ⟨Na5, nc5, Aa5, ac5, hvN, hvA, hMA⟩ := HO.out.mem.machF (w' := ((wr.setCell ⟨w.heap.size + 1, 0, none⟩ (.int .i64 (L : Int))).setCell ⟨w.heap.size + 1, 1, none⟩ vN).setCell ⟨w.heap.size + 1, 2, none⟩ vA) (fun a ha => by
        rw [Below.heap_setCell _ _ _ _ (by dsimp only; omega), Below.heap_setCell _ _ _ _ (by dsimp only; omega), Below.heap_setCell _ _ _ _ (by dsimp only; omega)]) (by simp) (by omega) (by omega) (fun r hr => ⟨by rw [HRn.out r hr]; omega, fun x hx => by have := HEn.out r hr x hx; unfold I64; omega⟩) (fun i hi => by rw [List.getElem?_eq_getElem hi, Option.getD_some, HRn.out _ (List.getElem_mem hi)]; omega)
      have HMz := hid (hMA.weak (B' := w.heap.size) (by omega))
      have HBb := hid ((((HB1.out.trans (hb.mono HB1.out.size)).setCell (p := ⟨w.heap.size + 1, 0, none⟩) (by simp) (.int .i64 (L : Int))).setCell (p := ⟨w.heap.size + 1, 1, none⟩) (by simp) vN).setCell (p := ⟨w.heap.size + 1, 2, none⟩) (by simp) vA)
      clear r0c r1c r2c r0f hb hMA
      subst hvN hvA
      rw [hr1] at c1 HMz HBb
      rw [hr2] at c2 HMz HBb
      go_wp2
      have t0 : (((wr.setCell ⟨w.heap.size + 1, 0, none⟩ (.int .i64 (L : Int))).setCell ⟨w.heap.size + 1, 1, none⟩ (.slice Na5 sts.length nc5)).setCell ⟨w.heap.size + 1, 2, none⟩ (.slice Aa5 sts.length ac5)).cell? ⟨w.heap.size + 1, 0, none⟩ = some (.int .i64 (L : Int)) := by go_simp
      have t1 : (((wr.setCell ⟨w.heap.size + 1, 0, none⟩ (.int .i64 (L : Int))).setCell ⟨w.heap.size + 1, 1, none⟩ (.slice Na5 sts.length nc5)).setCell ⟨w.heap.size + 1, 2, none⟩ (.slice Aa5 sts.length ac5)).cell? ⟨w.heap.size + 1, 1, none⟩ = some (.slice Na5 sts.length nc5) := by go_simp
      have t2 : (((wr.setCell ⟨w.heap.size + 1, 0, none⟩ (.int .i64 (L : Int))).setCell ⟨w.heap.size + 1, 1, none⟩ (.slice Na5 sts.length nc5)).setCell ⟨w.heap.size + 1, 2, none⟩ (.slice Aa5 sts.length ac5)).cell? ⟨w.heap.size + 1, 2, none⟩ = some (.slice Aa5 sts.length ac5) := by go_simp
      generalize (((wr.setCell ⟨w.heap.size + 1, 0, none⟩ (.int .i64 (L : Int))).setCell ⟨w.heap.size + 1, 1, none⟩ (.slice Na5 sts.length nc5)).setCell ⟨w.heap.size + 1, 2, none⟩ (.slice Aa5 sts.length ac5)) = wz at *
      refine bodyPost_ret (v := machV L Na5 sts.length nc5 Aa5 sts.length ac5) (by simp [machV, results, Try.results124, go_sem, t0, t1, t2]) rfl ⟨HBb.out, sts.length, HF.out, hbd, Na5, nc5, Aa5, ⟨ac5, rfl⟩, by have h1 := congrArg Prod.fst HCn.out; have h2 := congrArg Prod.snd HCn.out; dsimp only at h1 h2; rw [← h1, ← h2]; exact HMz.out⟩
end Go.Proofs.Ytkboeldafppicaa
