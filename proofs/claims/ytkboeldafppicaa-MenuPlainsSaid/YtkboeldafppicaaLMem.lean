/- The memory of a machine that is being listed: its states, rows and acceptances, each in slices of the call's own, none in another's array. -/
import Derived.Test.YtkboeldafppicaaRowsI
import Derived.Maps.AppendAt
set_option linter.unusedVariables false
namespace Go.Proofs.Ytkboeldafppicaa
open Go.RowKit

structure LMem (w0 w : World) (B : Nat) (e : TypeId) (sz ns : Nat) (sc : List Value) (rows : List (List Int)) (accs : List Bool) (vS vN vA : Value) (rv : List Value) : Prop where
  bel : Below w0.heap.size w0 w
  hB : w0.heap.size ≤ B
  hBw : B ≤ w.heap.size
  S : w.ownsRow B e sz vS ns sc
  N : w.ownsRow B 26 1 vN rows.length rv
  A : w.ownsRow B 4 1 vA accs.length (accs.map Value.bool)
  R : ∀ i, i < rows.length → ∃ r, rv[i]? = some r ∧ (∃ g c, r = .slice (some ⟨g, 0, none⟩) (rows[i]?.getD []).length c) ∧ w.ownsRow B 3 1 r (rows[i]?.getD []).length ((rows[i]?.getD []).map (Value.int .i64)) ∧ r.ownBlock ≠ vS.ownBlock ∧ r.ownBlock ≠ vN.ownBlock ∧ r.ownBlock ≠ vA.ownBlock
  SN : vS.ownBlock ≠ vN.ownBlock
  SA : vS.ownBlock ≠ vA.ownBlock
  NA : vN.ownBlock = none ∨ vN.ownBlock ≠ vA.ownBlock
/-- What the block q would have to be, to be none of the slices'. -/
def LFree (rows : List (List Int)) (vS vN vA : Value) (rv : List Value) (q : Nat) : Prop := vS.ownBlock ≠ some q ∧ vN.ownBlock ≠ some q ∧ vA.ownBlock ≠ some q ∧ ∀ i, i < rows.length → ∀ r, rv[i]? = some r → r.ownBlock ≠ some q

section
variable {w0 w w' : World} {B : Nat} {e : TypeId} {sz ns : Nat} {sc : List Value} {rows : List (List Int)} {accs : List Bool} {vS vN vA : Value} {rv : List Value}
theorem kept_or {base : Nat} {e : TypeId} {s : Nat} {v : Value} {n : Nat} {xs : List Value} {row : Option Nat} (h : w.ownsRow base e s v n xs) (hg : w.grownBy w' row) (hne : ∀ q, row = some q → v.ownBlock ≠ some q) : w'.ownsRow base e s v n xs := by
  refine h.kept hg ?_
  cases hv : v.ownBlock with
  | none => exact .inl rfl
  | some q => exact .inr fun hh => hne q hh.symm hv
theorem LMem.grown {row : Option Nat} (h : LMem w0 w B e sz ns sc rows accs vS vN vA rv) (hg : w.grownBy w' row) (hr : ∀ q, row = some q → w0.heap.size ≤ q ∧ LFree rows vS vN vA rv q) : LMem w0 w' B e sz ns sc rows accs vS vN vA rv where
  bel := h.bel.grown hg h.bel.size (fun k hk => (hr k hk).1)
  hB := h.hB
  hBw := Nat.le_trans h.hBw hg.size
  S := kept_or h.S hg (fun q hq => (hr q hq).2.1)
  N := kept_or h.N hg (fun q hq => (hr q hq).2.2.1)
  A := kept_or h.A hg (fun q hq => (hr q hq).2.2.2.1)
  R := fun i hi => by
    obtain ⟨r, h1, h2, h3, h4⟩ := h.R i hi
    exact ⟨r, h1, h2, kept_or h3 hg (fun q hq => (hr q hq).2.2.2.2 i hi r h1), h4⟩
  SN := h.SN
  SA := h.SA
  NA := h.NA
theorem LMem.low (h : LMem w0 w B e sz ns sc rows accs vS vN vA rv) (q : Nat) (hq : q < B) : LFree rows vS vN vA rv q := by
  have no : ∀ {base : Nat} {e : TypeId} {s : Nat} {v : Value} {n : Nat} {xs : List Value}, w.ownsRow B e s v n xs → v.ownBlock ≠ some q := fun ho hh => by have := (ho.lt q hh).1; omega
  exact ⟨no (base := 0) h.S, no (base := 0) h.N, no (base := 0) h.A, fun i hi r hr => by
    obtain ⟨r', h1, h2, h3, h4⟩ := h.R i hi
    rw [hr] at h1
    cases h1
    exact no (base := 0) h3⟩
theorem LMem.new (h : LMem w0 w B e sz ns sc rows accs vS vN vA rv) (q : Nat) (hq : w.heap.size ≤ q) : LFree rows vS vN vA rv q := by
  have no : ∀ {e : TypeId} {s : Nat} {v : Value} {n : Nat} {xs : List Value}, w.ownsRow B e s v n xs → v.ownBlock ≠ some q := fun ho hh => by have := (ho.lt q hh).2; omega
  exact ⟨no h.S, no h.N, no h.A, fun i hi r hr => by
    obtain ⟨r', h1, h2, h3, h4⟩ := h.R i hi
    rw [hr] at h1
    cases h1
    exact no h3⟩
theorem below_grown {m : Nat} (h : Below m w w') (hm : w.heap.size ≤ m) : w.grownBy w' none := ⟨h.os, h.tape, h.output, h.size, fun k hk _ => h.block k (by omega)⟩
theorem LMem.below (h : LMem w0 w B e sz ns sc rows accs vS vN vA rv) (hb : Below w.heap.size w w') : LMem w0 w' B e sz ns sc rows accs vS vN vA rv := h.grown (below_grown hb (Nat.le_refl _)) (fun q hq => by cases hq)
theorem LMem.alloc (h : LMem w0 w B e sz ns sc rows accs vS vN vA rv) (o : Obj) : LMem w0 (w.alloc o) B e sz ns sc rows accs vS vN vA rv := h.below ((Below.refl _ _).alloc (Nat.le_refl _) o)
theorem setCell_grown (w : World) (p : Addr) (u : Value) : w.grownBy (w.setCell p u) (some p.block) := by
  refine ⟨rfl, rfl, rfl, by simp, fun k hk hne => Below.heap_setCell _ _ _ _ (fun hh => hne (by rw [hh]))⟩
theorem LMem.setCell (h : LMem w0 w B e sz ns sc rows accs vS vN vA rv) (p : Addr) (u : Value) (hp : w0.heap.size ≤ p.block) (hf : LFree rows vS vN vA rv p.block) : LMem w0 (w.setCell p u) B e sz ns sc rows accs vS vN vA rv :=
  h.grown (setCell_grown w p u) (fun q hq => by cases hq; exact ⟨hp, hf⟩)

theorem LMem.appS {v' : Value} {ns' : Nat} {sc' : List Value} (h : LMem w0 w B e sz ns sc rows accs vS vN vA rv) (hown : w'.ownsRow B e sz v' ns' sc') (hg : w.grownBy w' vS.ownBlock) (hloc : v'.ownBlock = vS.ownBlock ∨ v'.ownBlock = some w.heap.size) (hsome : v'.ownBlock ≠ none) :
    LMem w0 w' B e sz ns' sc' rows accs v' vN vA rv := by
  have hnew := h.new w.heap.size (Nat.le_refl _)
  refine ⟨h.bel.grown hg h.bel.size (fun k hk => by have := (h.S.lt k hk).1; have := h.hB; omega), h.hB, Nat.le_trans h.hBw hg.size, hown, kept_or h.N hg (fun q hq hh => h.SN (hq.trans hh.symm)), kept_or h.A hg (fun q hq hh => h.SA (hq.trans hh.symm)), fun i hi => ?_, ?_, ?_, h.NA⟩
  · obtain ⟨r, h1, h2, h3, h4, h5, h6⟩ := h.R i hi
    refine ⟨r, h1, h2, kept_or h3 hg (fun q hq hh => h4 (hh.trans hq.symm)), ?_, h5, h6⟩
    rcases hloc with hl | hl
    · rw [hl]; exact h4
    · rw [hl]; exact hnew.2.2.2 i hi r h1
  · rcases hloc with hl | hl
    · rw [hl]; exact h.SN
    · rw [hl]; exact fun hh => hnew.2.1 hh.symm
  · rcases hloc with hl | hl
    · rw [hl]; exact h.SA
    · rw [hl]; exact fun hh => hnew.2.2.1 hh.symm

theorem LMem.appN {v' r : Value} {xs : List Int} (h : LMem w0 w B e sz ns sc rows accs vS vN vA rv) (hown : w'.ownsRow B 26 1 v' (rows.length + 1) (rv ++ [r])) (hg : w.grownBy w' vN.ownBlock) (hloc : v'.ownBlock = vN.ownBlock ∨ v'.ownBlock = some w.heap.size)
    (hr : w.ownsRow B 3 1 r xs.length (xs.map (Value.int .i64))) (hform : ∃ g c, r = .slice (some ⟨g, 0, none⟩) xs.length c ∧ LFree rows vS vN vA rv g) (hS : vS.ownBlock ≠ none) :
    LMem w0 w' B e sz ns sc (rows ++ [xs]) accs vS v' vA (rv ++ [r]) := by
  have hnew := h.new w.heap.size (Nat.le_refl _)
  have hrl : rv.length = rows.length := by simpa using h.N.1
  have h0 : ∀ q, vN.ownBlock = some q → w0.heap.size ≤ q := fun q hq => by have := (h.N.lt q hq).1; have := h.hB; omega
  obtain ⟨g, cg, rfl, hf⟩ := hform
  have hgl : g < w.heap.size := (hr.lt g rfl).2
  refine ⟨h.bel.grown hg h.bel.size h0, h.hB, Nat.le_trans h.hBw hg.size, kept_or h.S hg (fun q hq hh => h.SN (hh.trans hq.symm)), by simpa using hown, kept_or h.A hg (fun q hq hh => ?_), fun i hi => ?_, ?_, h.SA, ?_⟩
  · rcases h.NA with hn | hn
    · rw [hn] at hq; cases hq
    · exact hn (hq.trans hh.symm)
  · by_cases hlt : i < rows.length
    · obtain ⟨r, h1, h2, h3, h4, h5, h6⟩ := h.R i hlt
      rw [List.getElem?_append_left (by omega), List.getElem?_append_left hlt]
      refine ⟨r, h1, h2, kept_or h3 hg (fun q hq hh => h5 (hh.trans hq.symm)), h4, ?_, h6⟩
      rcases hloc with hl | hl
      · rw [hl]; exact h5
      · rw [hl]; exact hnew.2.2.2 i hlt r h1
    · have hi' : i = rows.length := by simp at hi; omega
      subst hi'
      refine ⟨.slice (some ⟨g, 0, none⟩) xs.length cg, by rw [← hrl]; simp, ⟨g, cg, by simp⟩, ?_, fun hh => hf.1 hh.symm, ?_, fun hh => hf.2.2.1 hh.symm⟩
      · simpa using kept_or hr hg (fun q hq hh => hf.2.1 (hq.trans hh.symm))
      · rcases hloc with hl | hl
        · rw [hl]; exact fun hh => hf.2.1 hh.symm
        · rw [hl]; intro hh; simp [Value.ownBlock] at hh; omega
  · rcases hloc with hl | hl
    · rw [hl]; exact h.SN
    · rw [hl]; exact hnew.1
  · rcases hloc with hl | hl
    · rw [hl]; exact h.NA
    · right; rw [hl]; exact fun hh => hnew.2.2.1 hh.symm

theorem LMem.appA {v' : Value} {b : Bool} (h : LMem w0 w B e sz ns sc rows accs vS vN vA rv) (hown : w'.ownsRow B 4 1 v' (accs.length + 1) (accs.map Value.bool ++ [Value.bool b])) (hg : w.grownBy w' vA.ownBlock) (hloc : v'.ownBlock = vA.ownBlock ∨ v'.ownBlock = some w.heap.size) :
    LMem w0 w' B e sz ns sc rows (accs ++ [b]) vS vN v' rv := by
  have hnew := h.new w.heap.size (Nat.le_refl _)
  have h0 : ∀ q, vA.ownBlock = some q → w0.heap.size ≤ q := fun q hq => by have := (h.A.lt q hq).1; have := h.hB; omega
  refine ⟨h.bel.grown hg h.bel.size h0, h.hB, Nat.le_trans h.hBw hg.size, kept_or h.S hg (fun q hq hh => h.SA (hh.trans hq.symm)), kept_or h.N hg (fun q hq hh => ?_), by simpa using hown, fun i hi => ?_, h.SN, ?_, ?_⟩
  · rcases h.NA with hn | hn
    · rw [hn] at hh; cases hh
    · exact hn (hh.trans hq.symm)
  · obtain ⟨r, h1, h2, h3, h4, h5, h6⟩ := h.R i hi
    refine ⟨r, h1, h2, kept_or h3 hg (fun q hq hh => h6 (hh.trans hq.symm)), h4, h5, ?_⟩
    rcases hloc with hl | hl
    · rw [hl]; exact h6
    · rw [hl]; exact hnew.2.2.2 i hi r h1
  · rcases hloc with hl | hl
    · rw [hl]; exact h.SA
    · rw [hl]; exact hnew.1
  · rcases hloc with hl | hl
    · rw [hl]; exact h.NA
    · rw [hl]; exact .inr hnew.2.1
end
end Go.Proofs.Ytkboeldafppicaa
