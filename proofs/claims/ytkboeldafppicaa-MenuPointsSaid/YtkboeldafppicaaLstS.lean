/- The memory of a machine that is being listed: with its map and its box. -/
import Derived.Test.YtkboeldafppicaaBase
import Derived.Maps.OwnSet
import Derived.Test.YtkboeldafppicaaRowsI
import Derived.Maps.AppendAt
import Derived.Test.YtkboeldafppicaaListM
import Derived.Deep.AppendLies
/- Maps from keys to numbers that a call makes, as lists of pairs. -/
set_option linter.unusedVariables false
namespace Go.Proofs.Ytkboeldafppicaa
open Go.RowKit Go.Maps

/-- The block b is a map, with keys of the type K, that has these numbers. -/
def NumMap (w : World) (K : TypeId) (b : Nat) (l : List (Value × Int)) : Prop :=
  ∃ D : DataW Unit, w.ownsMap Try.prog K (plainElem Try.prog 3) b l.length D ∧ Maps.size D = l.length ∧
    ∀ key kl, keyOf Try.prog K key = some kl → (∀ c, (key, c) ∈ l → D.atKey kl (.lit (.int .i64 0)) = .lit (.int .i64 c) ∧ Maps.has D kl = true) ∧ ((∀ c, (key, c) ∉ l) → Maps.has D kl = false)
theorem NumMap.made (w : World) (K : TypeId) : NumMap (w.alloc (.map #[] 0)) K w.heap.size [] :=
  ⟨.map [], World.ownsMap_made _ _ _ _, rfl, fun key kl _ => ⟨fun c h => by simp at h, fun _ => rfl⟩⟩
theorem NumMap.lt {w : World} {K : TypeId} {b : Nat} {l : List (Value × Int)} (h : NumMap w K b l) : b < w.heap.size := h.elim fun _ hh => hh.1.lt
theorem NumMap.block {w w' : World} {K : TypeId} {b : Nat} {l : List (Value × Int)} (h : NumMap w K b l) (hb : w'.heap[b]? = w.heap[b]?) : NumMap w' K b l := by
  obtain ⟨D, ⟨es, clock, hh, rest⟩, r2⟩ := h
  exact ⟨D, ⟨es, clock, hb.trans hh, rest⟩, r2⟩
theorem NumMap.below {w w' : World} {K : TypeId} {b : Nat} {l : List (Value × Int)} (h : NumMap w K b l) {m : Nat} (hb : Below m w w') (hm : b < m) : NumMap w' K b l := h.block (hb.block b hm)
theorem NumMap.alloc {w : World} {K : TypeId} {b : Nat} {l : List (Value × Int)} (h : NumMap w K b l) (o : Obj) : NumMap (w.alloc o) K b l := h.block (Below.heap_alloc _ _ _ h.lt)
theorem NumMap.setCell {w : World} {K : TypeId} {b : Nat} {l : List (Value × Int)} (h : NumMap w K b l) (a : Addr) (u : Value) (ha : b ≠ a.block) : NumMap (w.setCell a u) K b l := h.block (Below.heap_setCell _ _ _ _ ha)

theorem NumMap.put {w w' : World} {K : TypeId} {b : Nat} {l : List (Value × Int)} {D : DataW Unit} (law : Keyed Try.prog K) (ht : w.ownsMap Try.prog K (plainElem Try.prog 3) b l.length D) (hs : Maps.size D = l.length)
    (hr : ∀ key kl, keyOf Try.prog K key = some kl → (∀ c, (key, c) ∈ l → D.atKey kl (.lit (.int .i64 0)) = .lit (.int .i64 c) ∧ Maps.has D kl = true) ∧ ((∀ c, (key, c) ∉ l) → Maps.has D kl = false))
    {key : Value} {kl : Lit} (hkey : keyOf Try.prog K key = some kl) (hnew : ∀ c, (key, c) ∉ l) (c : Int) (hown : w'.ownsMap Try.prog K (plainElem Try.prog 3) b (l.length + 1) (D.put kl (.lit (.int .i64 c)))) :
    NumMap w' K b (l ++ [(key, c)]) := by
  have hk := law.key hkey
  refine ⟨_, by simpa using hown, ?_, ?_⟩
  · rw [Maps.size_put (ht.tidy law), (hr key kl hkey).2 hnew, hs]; simp
  · intro key' kl' h'
    by_cases e : key' = key
    · subst e
      obtain rfl : kl' = kl := by rw [hkey] at h'; exact (Option.some.inj h').symm
      refine ⟨fun c' hc => ?_, fun hn => ?_⟩
      · rcases List.mem_append.1 hc with hc | hc
        · exact absurd hc (hnew c')
        · obtain rfl : c' = c := by simpa using hc
          exact ⟨Maps.atKey_put_same ht.isMap hk _ _, Maps.has_put_same ht.isMap hk _⟩
      · exact absurd (by simp) (hn c)
    · have hne : kl' ≠ kl := fun hh => e (law.inj (hh ▸ h') hkey)
      obtain ⟨h1, h2⟩ := hr key' kl' h'
      rw [Maps.atKey_put_other hne, Maps.has_put_other hne]
      refine ⟨fun c' hc => h1 c' ?_, fun hn => h2 fun c' hc => hn c' (by simp [hc])⟩
      rcases List.mem_append.1 hc with hc | hc
      · exact hc
      · simp at hc; exact absurd hc.1 e

section
variable {w : World} {ops : Array Oper} {rest : List Oper} {o : Oper} {a : Act} {Q : Exit → Act → World → Prop}
theorem wpList_numPut (hg : o.guard = none) (m x v : Operand) (t : TypeId) (hop : o.op = Op.mapUpdate t m x v) (K : TypeId) (law : Keyed Try.prog K) (ht : Try.prog.underlying t = some (.map K 3)) (b : Nat) (l : List (Value × Int))
    (hm : a.eval m = .map (some b)) (hown : NumMap w K b l) (hn : l.length < maxLen) (key : Value) (c : Int) (kl : Lit) (hx : a.eval x = key) (hv : a.eval v = .int .i64 c) (hwf : (Lit.int .i64 c).wf = true) (hkey : keyOf Try.prog K key = some kl) (hnew : ∀ c', (key, c') ∉ l)
    (hK : ∀ w', NumMap w' K b (l ++ [(key, c)]) → w.grownBy w' (some b) → wpList Try.prog ops Q rest (a.put o.dst undef) w') :
    wpList Try.prog ops Q (o :: rest) a w := by
  obtain ⟨D, h1, h2, h3⟩ := hown
  refine wpList_mapUpdate_own w hg m x v t hop K 3 law ht (plainElem Try.prog 3) b l.length D hm h1 hn key (.int .i64 c) kl hx hv hkey (.lit (.int .i64 c)) [] (plainElem_int Try.underlying3 hwf) ?_
  intro w' hw hg'
  exact hK w' (NumMap.put law h1 h2 h3 hkey hnew c hw) hg'
theorem wpList_numLookOk (hg : o.guard = none) (m x : Operand) (t : TypeId) (hop : o.op = Op.lookup t m x true) (K : TypeId) (law : Keyed Try.prog K) (ht : Try.prog.underlying t = some (.map K 3)) (hz : (zeroValue 3).run Try.prog w = .ok (.int .i64 0) w) (b : Nat) (l : List (Value × Int))
    (hm : a.eval m = .map (some b)) (hown : NumMap w K b l) (key : Value) (kl : Lit) (hx : a.eval x = key) (hkey : keyOf Try.prog K key = some kl)
    (hK : ∀ c bb, ((bb = true ∧ (∃ c', (key, c') ∈ l) ∧ ∀ c', (key, c') ∈ l → c' = c) ∨ (bb = false ∧ ∀ c', (key, c') ∉ l)) → wpList Try.prog ops Q rest (a.put o.dst (.tuple #[.int .i64 c, .bool bb])) w) :
    wpList Try.prog ops Q (o :: rest) a w := by
  obtain ⟨D, h1, h2, h3⟩ := hown
  refine wpList_lookup_own_ok_int w hg m x t hop K 3 .i64 law ht Try.underlying3 hz b l.length D hm h1 key kl hx hkey ?_
  intro c hat hwc
  refine hK c _ ?_
  obtain ⟨g1, g2⟩ := h3 key kl hkey
  by_cases hh : ∃ c', (key, c') ∈ l
  · refine .inl ⟨(g1 _ hh.choose_spec).2, hh, fun c' hc => ?_⟩
    have := (g1 c' hc).1
    rw [hat] at this
    simpa using this.symm
  · have hh' : ∀ c', (key, c') ∉ l := fun c' hc => hh ⟨c', hc⟩
    exact .inr ⟨g2 hh', hh'⟩
theorem wpList_numLook (hg : o.guard = none) (m x : Operand) (t : TypeId) (hop : o.op = Op.lookup t m x false) (K : TypeId) (law : Keyed Try.prog K) (ht : Try.prog.underlying t = some (.map K 3)) (hz : (zeroValue 3).run Try.prog w = .ok (.int .i64 0) w) (b : Nat) (l : List (Value × Int))
    (hm : a.eval m = .map (some b)) (hown : NumMap w K b l) (key : Value) (c : Int) (kl : Lit) (hx : a.eval x = key) (hkey : keyOf Try.prog K key = some kl) (hin : (key, c) ∈ l)
    (hK : wpList Try.prog ops Q rest (a.put o.dst (.int .i64 c)) w) :
    wpList Try.prog ops Q (o :: rest) a w := by
  obtain ⟨D, h1, h2, h3⟩ := hown
  refine wpList_lookup_own_int w hg m x t hop K 3 .i64 law ht Try.underlying3 hz b l.length D hm h1 key kl hx hkey ?_
  intro c' hat hwc
  have := ((h3 key kl hkey).1 c hin).1
  rw [hat] at this
  obtain rfl : c' = c := by simpa using this
  exact hK
theorem wpList_numLen (hg : o.guard = none) (m : Operand) (t : TypeId) (hop : o.op = Op.call { callee := Callee.builtin Builtin.len, args := #[m], argTypes := #[t] }) (K : TypeId) (ht : Try.prog.underlying t = some (.map K 3)) (b : Nat) (l : List (Value × Int))
    (hm : a.eval m = .map (some b)) (hown : NumMap w K b l) (hK : wpList Try.prog ops Q rest (a.put o.dst (.int .i64 (l.length : Int))) w) :
    wpList Try.prog ops Q (o :: rest) a w := by
  obtain ⟨D, h1, h2, h3⟩ := hown
  refine wpList_len_own w hg m t hop K 3 ht (plainElem Try.prog 3) b l.length D hm h1 ?_
  rw [h2]; exact hK
end

end Go.Proofs.Ytkboeldafppicaa
/- The memory of a machine that is being listed: its states, rows and acceptances, each in slices of the call's own, none in another's array. -/
set_option linter.unusedVariables false
namespace Go.Proofs.Ytkboeldafppicaa
open Go.RowKit

structure LMem (w0 w : World) (B : Nat) (e : TypeId) (sz ns : Nat) (sc : List Value) (rows : List (List Int)) (accs : List Bool) (vS vN vA : Value) (rv : List Value) : Prop where
  bel : Below w0.heap.size w0 w
  hB : w0.heap.size ≤ B
  hBw : B ≤ w.heap.size
  S : w.ownsRow B e sz vS ns sc
  N : w.ownsRow B 26 1 vN rows.length rv
  A : w.ownsRow B 4 1 vA accs.length (accs.map Value.bool)
  R : ∀ i, i < rows.length → ∃ r, rv[i]? = some r ∧ (∃ g c, r = .slice (some ⟨g, 0, none⟩) (rows[i]?.getD []).length c) ∧ w.ownsRow B 3 1 r (rows[i]?.getD []).length ((rows[i]?.getD []).map (Value.int .i64)) ∧ r.ownBlock ≠ vS.ownBlock ∧ r.ownBlock ≠ vN.ownBlock ∧ r.ownBlock ≠ vA.ownBlock
  SN : vS.ownBlock ≠ vN.ownBlock
  SA : vS.ownBlock ≠ vA.ownBlock
  NA : vN.ownBlock = none ∨ vN.ownBlock ≠ vA.ownBlock
/-- What the block q would have to be, to be none of the slices'. -/
def LFree (rows : List (List Int)) (vS vN vA : Value) (rv : List Value) (q : Nat) : Prop := vS.ownBlock ≠ some q ∧ vN.ownBlock ≠ some q ∧ vA.ownBlock ≠ some q ∧ ∀ i, i < rows.length → ∀ r, rv[i]? = some r → r.ownBlock ≠ some q

section
variable {w0 w w' : World} {B : Nat} {e : TypeId} {sz ns : Nat} {sc : List Value} {rows : List (List Int)} {accs : List Bool} {vS vN vA : Value} {rv : List Value}
theorem kept_or {base : Nat} {e : TypeId} {s : Nat} {v : Value} {n : Nat} {xs : List Value} {row : Option Nat} (h : w.ownsRow base e s v n xs) (hg : w.grownBy w' row) (hne : ∀ q, row = some q → v.ownBlock ≠ some q) : w'.ownsRow base e s v n xs := by
  refine h.kept hg ?_
  cases hv : v.ownBlock with
  | none => exact .inl rfl
  | some q => exact .inr fun hh => hne q hh.symm hv
theorem LMem.grown {row : Option Nat} (h : LMem w0 w B e sz ns sc rows accs vS vN vA rv) (hg : w.grownBy w' row) (hr : ∀ q, row = some q → w0.heap.size ≤ q ∧ LFree rows vS vN vA rv q) : LMem w0 w' B e sz ns sc rows accs vS vN vA rv where
  bel := h.bel.grown hg h.bel.size (fun k hk => (hr k hk).1)
  hB := h.hB
  hBw := Nat.le_trans h.hBw hg.size
  S := kept_or h.S hg (fun q hq => (hr q hq).2.1)
  N := kept_or h.N hg (fun q hq => (hr q hq).2.2.1)
  A := kept_or h.A hg (fun q hq => (hr q hq).2.2.2.1)
  R := fun i hi => by
    obtain ⟨r, h1, h2, h3, h4⟩ := h.R i hi
    exact ⟨r, h1, h2, kept_or h3 hg (fun q hq => (hr q hq).2.2.2.2 i hi r h1), h4⟩
  SN := h.SN
  SA := h.SA
  NA := h.NA
theorem LMem.low (h : LMem w0 w B e sz ns sc rows accs vS vN vA rv) (q : Nat) (hq : q < B) : LFree rows vS vN vA rv q := by
  have no : ∀ {base : Nat} {e : TypeId} {s : Nat} {v : Value} {n : Nat} {xs : List Value}, w.ownsRow B e s v n xs → v.ownBlock ≠ some q := fun ho hh => by have := (ho.lt q hh).1; omega
  exact ⟨no (base := 0) h.S, no (base := 0) h.N, no (base := 0) h.A, fun i hi r hr => by
    obtain ⟨r', h1, h2, h3, h4⟩ := h.R i hi
    rw [hr] at h1
    cases h1
    exact no (base := 0) h3⟩
theorem LMem.new (h : LMem w0 w B e sz ns sc rows accs vS vN vA rv) (q : Nat) (hq : w.heap.size ≤ q) : LFree rows vS vN vA rv q := by
  have no : ∀ {e : TypeId} {s : Nat} {v : Value} {n : Nat} {xs : List Value}, w.ownsRow B e s v n xs → v.ownBlock ≠ some q := fun ho hh => by have := (ho.lt q hh).2; omega
  exact ⟨no h.S, no h.N, no h.A, fun i hi r hr => by
    obtain ⟨r', h1, h2, h3, h4⟩ := h.R i hi
    rw [hr] at h1
    cases h1
    exact no h3⟩
theorem below_grown {m : Nat} (h : Below m w w') (hm : w.heap.size ≤ m) : w.grownBy w' none := ⟨h.os, h.tape, h.output, h.size, fun k hk _ => h.block k (by omega)⟩
theorem LMem.below (h : LMem w0 w B e sz ns sc rows accs vS vN vA rv) (hb : Below w.heap.size w w') : LMem w0 w' B e sz ns sc rows accs vS vN vA rv := h.grown (below_grown hb (Nat.le_refl _)) (fun q hq => by cases hq)
theorem LMem.alloc (h : LMem w0 w B e sz ns sc rows accs vS vN vA rv) (o : Obj) : LMem w0 (w.alloc o) B e sz ns sc rows accs vS vN vA rv := h.below ((Below.refl _ _).alloc (Nat.le_refl _) o)
theorem setCell_grown (w : World) (p : Addr) (u : Value) : w.grownBy (w.setCell p u) (some p.block) := by
  refine ⟨rfl, rfl, rfl, by simp, fun k hk hne => Below.heap_setCell _ _ _ _ (fun hh => hne (by rw [hh]))⟩
theorem LMem.setCell (h : LMem w0 w B e sz ns sc rows accs vS vN vA rv) (p : Addr) (u : Value) (hp : w0.heap.size ≤ p.block) (hf : LFree rows vS vN vA rv p.block) : LMem w0 (w.setCell p u) B e sz ns sc rows accs vS vN vA rv :=
  h.grown (setCell_grown w p u) (fun q hq => by cases hq; exact ⟨hp, hf⟩)

theorem LMem.appS {v' : Value} {ns' : Nat} {sc' : List Value} (h : LMem w0 w B e sz ns sc rows accs vS vN vA rv) (hown : w'.ownsRow B e sz v' ns' sc') (hg : w.grownBy w' vS.ownBlock) (hloc : v'.ownBlock = vS.ownBlock ∨ v'.ownBlock = some w.heap.size) (hsome : v'.ownBlock ≠ none) :
    LMem w0 w' B e sz ns' sc' rows accs v' vN vA rv := by
  have hnew := h.new w.heap.size (Nat.le_refl _)
  refine ⟨h.bel.grown hg h.bel.size (fun k hk => by have := (h.S.lt k hk).1; have := h.hB; omega), h.hB, Nat.le_trans h.hBw hg.size, hown, kept_or h.N hg (fun q hq hh => h.SN (hq.trans hh.symm)), kept_or h.A hg (fun q hq hh => h.SA (hq.trans hh.symm)), fun i hi => ?_, ?_, ?_, h.NA⟩
  · obtain ⟨r, h1, h2, h3, h4, h5, h6⟩ := h.R i hi
    refine ⟨r, h1, h2, kept_or h3 hg (fun q hq hh => h4 (hh.trans hq.symm)), ?_, h5, h6⟩
    rcases hloc with hl | hl
    · rw [hl]; exact h4
    · rw [hl]; exact hnew.2.2.2 i hi r h1
  · rcases hloc with hl | hl
    · rw [hl]; exact h.SN
    · rw [hl]; exact fun hh => hnew.2.1 hh.symm
  · rcases hloc with hl | hl
    · rw [hl]; exact h.SA
    · rw [hl]; exact fun hh => hnew.2.2.1 hh.symm

theorem LMem.appN {v' r : Value} {xs : List Int} (h : LMem w0 w B e sz ns sc rows accs vS vN vA rv) (hown : w'.ownsRow B 26 1 v' (rows.length + 1) (rv ++ [r])) (hg : w.grownBy w' vN.ownBlock) (hloc : v'.ownBlock = vN.ownBlock ∨ v'.ownBlock = some w.heap.size)
    (hr : w.ownsRow B 3 1 r xs.length (xs.map (Value.int .i64))) (hform : ∃ g c, r = .slice (some ⟨g, 0, none⟩) xs.length c ∧ LFree rows vS vN vA rv g) (hS : vS.ownBlock ≠ none) :
    LMem w0 w' B e sz ns sc (rows ++ [xs]) accs vS v' vA (rv ++ [r]) := by
  have hnew := h.new w.heap.size (Nat.le_refl _)
  have hrl : rv.length = rows.length := by simpa using h.N.1
  have h0 : ∀ q, vN.ownBlock = some q → w0.heap.size ≤ q := fun q hq => by have := (h.N.lt q hq).1; have := h.hB; omega
  obtain ⟨g, cg, rfl, hf⟩ := hform
  have hgl : g < w.heap.size := (hr.lt g rfl).2
  refine ⟨h.bel.grown hg h.bel.size h0, h.hB, Nat.le_trans h.hBw hg.size, kept_or h.S hg (fun q hq hh => h.SN (hh.trans hq.symm)), by simpa using hown, kept_or h.A hg (fun q hq hh => ?_), fun i hi => ?_, ?_, h.SA, ?_⟩
  · rcases h.NA with hn | hn
    · rw [hn] at hq; cases hq
    · exact hn (hq.trans hh.symm)
  · by_cases hlt : i < rows.length
    · obtain ⟨r, h1, h2, h3, h4, h5, h6⟩ := h.R i hlt
      rw [List.getElem?_append_left (by omega), List.getElem?_append_left hlt]
      refine ⟨r, h1, h2, kept_or h3 hg (fun q hq hh => h5 (hh.trans hq.symm)), h4, ?_, h6⟩
      rcases hloc with hl | hl
      · rw [hl]; exact h5
      · rw [hl]; exact hnew.2.2.2 i hlt r h1
    · have hi' : i = rows.length := by simp at hi; omega
      subst hi'
      refine ⟨.slice (some ⟨g, 0, none⟩) xs.length cg, by rw [← hrl]; simp, ⟨g, cg, by simp⟩, ?_, fun hh => hf.1 hh.symm, ?_, fun hh => hf.2.2.1 hh.symm⟩
      · simpa using kept_or hr hg (fun q hq hh => hf.2.1 (hq.trans hh.symm))
      · rcases hloc with hl | hl
        · rw [hl]; exact fun hh => hf.2.1 hh.symm
        · rw [hl]; intro hh; simp [Value.ownBlock] at hh; omega
  · rcases hloc with hl | hl
    · rw [hl]; exact h.SN
    · rw [hl]; exact hnew.1
  · rcases hloc with hl | hl
    · rw [hl]; exact h.NA
    · right; rw [hl]; exact fun hh => hnew.2.2.1 hh.symm

theorem LMem.appA {v' : Value} {b : Bool} (h : LMem w0 w B e sz ns sc rows accs vS vN vA rv) (hown : w'.ownsRow B 4 1 v' (accs.length + 1) (accs.map Value.bool ++ [Value.bool b])) (hg : w.grownBy w' vA.ownBlock) (hloc : v'.ownBlock = vA.ownBlock ∨ v'.ownBlock = some w.heap.size) :
    LMem w0 w' B e sz ns sc rows (accs ++ [b]) vS vN v' rv := by
  have hnew := h.new w.heap.size (Nat.le_refl _)
  have h0 : ∀ q, vA.ownBlock = some q → w0.heap.size ≤ q := fun q hq => by have := (h.A.lt q hq).1; have := h.hB; omega
  refine ⟨h.bel.grown hg h.bel.size h0, h.hB, Nat.le_trans h.hBw hg.size, kept_or h.S hg (fun q hq hh => h.SA (hh.trans hq.symm)), kept_or h.N hg (fun q hq hh => ?_), by simpa using hown, fun i hi => ?_, h.SN, ?_, ?_⟩
  · rcases h.NA with hn | hn
    · rw [hn] at hh; cases hh
    · exact hn (hh.trans hq.symm)
  · obtain ⟨r, h1, h2, h3, h4, h5, h6⟩ := h.R i hi
    refine ⟨r, h1, h2, kept_or h3 hg (fun q hq hh => h6 (hh.trans hq.symm)), h4, h5, ?_⟩
    rcases hloc with hl | hl
    · rw [hl]; exact h6
    · rw [hl]; exact hnew.2.2.2 i hi r h1
  · rcases hloc with hl | hl
    · rw [hl]; exact h.SA
    · rw [hl]; exact hnew.1
  · rcases hloc with hl | hl
    · rw [hl]; exact h.NA
    · rw [hl]; exact .inr hnew.2.1
end
end Go.Proofs.Ytkboeldafppicaa
set_option linter.unusedVariables false
namespace Go.Proofs.Ytkboeldafppicaa
open Go.RowKit Go.Maps

def numbL {S : Type} (enc : S → Value) (l : List S) : List (Value × Int) := l.zipIdx.map (fun p => (enc p.1, (p.2 : Int)))
theorem numbL_len {S : Type} (enc : S → Value) (l : List S) : (numbL enc l).length = l.length := by simp [numbL]
theorem numbL_snoc {S : Type} (enc : S → Value) (l : List S) (t : S) : numbL enc (l ++ [t]) = numbL enc l ++ [(enc t, (l.length : Int))] := by
  unfold numbL
  rw [List.zipIdx_append, List.map_append]
  simp
theorem numbL_mem {S : Type} (enc : S → Value) (hinj : ∀ s t, enc s = enc t → s = t) (l : List S) (s : S) (c : Int) : (enc s, c) ∈ numbL enc l ↔ ∃ i : Nat, c = i ∧ l[i]? = some s := by
  unfold numbL
  rw [List.mem_map]
  constructor
  · rintro ⟨⟨t, i⟩, hm, he⟩
    simp only [Prod.mk.injEq] at he
    obtain ⟨e1, rfl⟩ := he
    have := hinj _ _ e1
    subst this
    exact ⟨i, rfl, by simpa [List.mem_zipIdx_iff_getElem?] using hm⟩
  · rintro ⟨i, rfl, hi⟩
    exact ⟨(s, i), by simpa [List.mem_zipIdx_iff_getElem?] using hi, rfl⟩

section
variable {S : Type} {enc : S → Value} {cl : S → List Value} {w0 w w' : World} {B g3 gm : Nat} {e : TypeId} {sz L : Nat} {sts mp : List S} {rows : List (List Int)} {accs : List Bool} {vS vN vA : Value} {rv : List Value} {gr : Nat} {xs : List Int}
theorem grown_cell {w w' : World} {row : Option Nat} (h : w.grownBy w' row) {p : Addr} (hp : p.block < w.heap.size) (hne : row ≠ some p.block) : w'.cell? p = w.cell? p := World.cell?_of_block (h.block p.block hp (fun hh => hne hh.symm))
theorem grown_frozen {w w' : World} {row : Option Nat} (h : w.grownBy w' row) {p : Addr} (hp : p.block < w.heap.size) (hne : row ≠ some p.block) : w'.frozen? p = w.frozen? p := by
  unfold World.frozen?
  rw [h.block p.block hp (fun hh => hne hh.symm)]

theorem lies_loc {v : Value} {g n c H : Nat} (h : v.ownBlock = some g ∨ g = H) : (Value.slice (some ⟨g, 0, none⟩) n c).ownBlock = v.ownBlock ∨ (Value.slice (some ⟨g, 0, none⟩) n c).ownBlock = some H := by
  rcases h with e | e
  · exact .inl e.symm
  · exact .inr (by rw [← e]; rfl)
structure OutS (enc : S → Value) (cl : S → List Value) (w0 w : World) (B g3 gm : Nat) (e : TypeId) (sz L : Nat) (sts mp : List S) (rows : List (List Int)) (accs : List Bool) (vS vN vA : Value) (rv : List Value) : Prop where
  mem : LMem w0 w B e sz sts.length (sts.flatMap cl) rows accs vS vN vA rv
  map : NumMap w e gm (numbL enc mp)
  lg : w0.heap.size ≤ g3 ∧ g3 < B
  lm : w0.heap.size ≤ gm ∧ gm < B
  ne : g3 ≠ gm
  c0 : w.cell? ⟨g3, 0, none⟩ = some (.int .i64 (L : Int))
  c1 : w.cell? ⟨g3, 1, none⟩ = some vN
  c2 : w.cell? ⟨g3, 2, none⟩ = some vA
  f1 : w.frozen? ⟨g3, 1, none⟩ = false
  f2 : w.frozen? ⟨g3, 2, none⟩ = false
theorem OutS.grown (h : OutS enc cl w0 w B g3 gm e sz L sts mp rows accs vS vN vA rv) {row : Option Nat} (hg : w.grownBy w' row) (hm : LMem w0 w' B e sz sts.length (sts.flatMap cl) rows accs vS vN vA rv) (h3 : row ≠ some g3) (h4 : row ≠ some gm) : OutS enc cl w0 w' B g3 gm e sz L sts mp rows accs vS vN vA rv where
  mem := hm
  map := h.map.block (hg.block gm h.map.lt (fun hh => h4 hh.symm))
  lg := h.lg
  lm := h.lm
  ne := h.ne
  c0 := (grown_cell hg (cell_lt h.c0) h3).trans h.c0
  c1 := (grown_cell hg (cell_lt h.c1) h3).trans h.c1
  c2 := (grown_cell hg (cell_lt h.c2) h3).trans h.c2
  f1 := (grown_frozen hg (p := ⟨g3, 1, none⟩) (cell_lt h.c1) h3).trans h.f1
  f2 := (grown_frozen hg (p := ⟨g3, 2, none⟩) (cell_lt h.c2) h3).trans h.f2
theorem OutS.below (h : OutS enc cl w0 w B g3 gm e sz L sts mp rows accs vS vN vA rv) (hb : Below w.heap.size w w') : OutS enc cl w0 w' B g3 gm e sz L sts mp rows accs vS vN vA rv :=
  h.grown (below_grown hb (Nat.le_refl _)) (h.mem.below hb) (fun hh => by cases hh) (fun hh => by cases hh)
/-- The map is written. -/
theorem OutS.put {mp' : List S} (h : OutS enc cl w0 w B g3 gm e sz L sts mp rows accs vS vN vA rv) (hg : w.grownBy w' (some gm)) (hm : NumMap w' e gm (numbL enc mp')) : OutS enc cl w0 w' B g3 gm e sz L sts mp' rows accs vS vN vA rv where
  mem := h.mem.grown hg (fun q hq => by cases hq; exact ⟨h.lm.1, h.mem.low gm h.lm.2⟩)
  map := hm
  lg := h.lg
  lm := h.lm
  ne := h.ne
  c0 := (grown_cell hg (cell_lt h.c0) (fun hh => h.ne (Option.some.inj hh).symm)).trans h.c0
  c1 := (grown_cell hg (cell_lt h.c1) (fun hh => h.ne (Option.some.inj hh).symm)).trans h.c1
  c2 := (grown_cell hg (cell_lt h.c2) (fun hh => h.ne (Option.some.inj hh).symm)).trans h.c2
  f1 := (grown_frozen hg (p := ⟨g3, 1, none⟩) (cell_lt h.c1) (fun hh => h.ne (Option.some.inj hh).symm)).trans h.f1
  f2 := (grown_frozen hg (p := ⟨g3, 2, none⟩) (cell_lt h.c2) (fun hh => h.ne (Option.some.inj hh).symm)).trans h.f2
theorem OutS.lowS (h : OutS enc cl w0 w B g3 gm e sz L sts mp rows accs vS vN vA rv) : vS.ownBlock ≠ some g3 ∧ vS.ownBlock ≠ some gm := ⟨(h.mem.low g3 h.lg.2).1, (h.mem.low gm h.lm.2).1⟩
/-- A state more. -/
theorem OutS.appS {v' : Value} {t : S} (h : OutS enc cl w0 w B g3 gm e sz L sts mp rows accs vS vN vA rv) (hown : w'.ownsRow B e sz v' (sts.length + 1) (sts.flatMap cl ++ cl t)) (hg : w.grownBy w' vS.ownBlock) (hloc : v'.ownBlock = vS.ownBlock ∨ v'.ownBlock = some w.heap.size) (hsome : v'.ownBlock ≠ none) :
    OutS enc cl w0 w' B g3 gm e sz L (sts ++ [t]) mp rows accs v' vN vA rv where
  mem := by
    have := h.mem.appS hown hg hloc hsome
    rw [List.length_append, List.flatMap_append]
    simpa using this
  map := h.map.block (hg.block gm h.map.lt (fun hh => h.lowS.2 hh.symm))
  lg := h.lg
  lm := h.lm
  ne := h.ne
  c0 := (grown_cell hg (cell_lt h.c0) h.lowS.1).trans h.c0
  c1 := (grown_cell hg (cell_lt h.c1) h.lowS.1).trans h.c1
  c2 := (grown_cell hg (cell_lt h.c2) h.lowS.1).trans h.c2
  f1 := (grown_frozen hg (p := ⟨g3, 1, none⟩) (cell_lt h.c1) h.lowS.1).trans h.f1
  f2 := (grown_frozen hg (p := ⟨g3, 2, none⟩) (cell_lt h.c2) h.lowS.1).trans h.f2
/-- A row more, written into the box. -/
theorem OutS.pushN {v' r : Value} (h : OutS enc cl w0 w B g3 gm e sz L sts mp rows accs vS vN vA rv) (hown : w'.ownsRow B 26 1 v' (rows.length + 1) (rv ++ [r])) (hg : w.grownBy w' vN.ownBlock) (hloc : v'.ownBlock = vN.ownBlock ∨ v'.ownBlock = some w.heap.size)
    (hr : w.ownsRow B 3 1 r xs.length (xs.map (Value.int .i64))) (hform : ∃ g c, r = .slice (some ⟨g, 0, none⟩) xs.length c ∧ LFree rows vS vN vA rv g) (hS : vS.ownBlock ≠ none) :
    OutS enc cl w0 (w'.setCell ⟨g3, 1, none⟩ v') B g3 gm e sz L sts mp (rows ++ [xs]) accs vS v' vA (rv ++ [r]) := by
  have hN3 : vN.ownBlock ≠ some g3 := (h.mem.low g3 h.lg.2).2.1
  have hNm : vN.ownBlock ≠ some gm := (h.mem.low gm h.lm.2).2.1
  have hm := h.mem.appN hown hg hloc hr hform hS
  have hc0 := (grown_cell hg (cell_lt h.c0) hN3).trans h.c0
  have hc1 := (grown_cell hg (cell_lt h.c1) hN3).trans h.c1
  have hc2 := (grown_cell hg (cell_lt h.c2) hN3).trans h.c2
  have hf1 := (grown_frozen hg (p := ⟨g3, 1, none⟩) (cell_lt h.c1) hN3).trans h.f1
  have hf2 := (grown_frozen hg (p := ⟨g3, 2, none⟩) (cell_lt h.c2) hN3).trans h.f2
  exact { mem := hm.setCell ⟨g3, 1, none⟩ v' h.lg.1 (hm.low g3 h.lg.2)
          map := (h.map.block (hg.block gm h.map.lt (fun hh => hNm hh.symm))).setCell _ _ (fun hh => h.ne hh.symm)
          lg := h.lg
          lm := h.lm
          ne := h.ne
          c0 := by rw [World.cell?_setCell_other _ _ _ _ (by simp)]; exact hc0
          c1 := World.cell?_setCell_same _ _ _ hc1
          c2 := by rw [World.cell?_setCell_other _ _ _ _ (by simp)]; exact hc2
          f1 := by rw [World.frozen?_setCell]; exact hf1
          f2 := by rw [World.frozen?_setCell]; exact hf2 }
/-- An acceptance more, written into the box. -/
theorem OutS.pushA {v' : Value} {b : Bool} (h : OutS enc cl w0 w B g3 gm e sz L sts mp rows accs vS vN vA rv) (hown : w'.ownsRow B 4 1 v' (accs.length + 1) (accs.map Value.bool ++ [Value.bool b])) (hg : w.grownBy w' vA.ownBlock) (hloc : v'.ownBlock = vA.ownBlock ∨ v'.ownBlock = some w.heap.size) :
    OutS enc cl w0 (w'.setCell ⟨g3, 2, none⟩ v') B g3 gm e sz L sts mp rows (accs ++ [b]) vS vN v' rv := by
  have hN3 : vA.ownBlock ≠ some g3 := (h.mem.low g3 h.lg.2).2.2.1
  have hNm : vA.ownBlock ≠ some gm := (h.mem.low gm h.lm.2).2.2.1
  have hm := h.mem.appA hown hg hloc
  have hc0 := (grown_cell hg (cell_lt h.c0) hN3).trans h.c0
  have hc1 := (grown_cell hg (cell_lt h.c1) hN3).trans h.c1
  have hc2 := (grown_cell hg (cell_lt h.c2) hN3).trans h.c2
  have hf1 := (grown_frozen hg (p := ⟨g3, 1, none⟩) (cell_lt h.c1) hN3).trans h.f1
  have hf2 := (grown_frozen hg (p := ⟨g3, 2, none⟩) (cell_lt h.c2) hN3).trans h.f2
  exact { mem := hm.setCell ⟨g3, 2, none⟩ v' h.lg.1 (hm.low g3 h.lg.2)
          map := (h.map.block (hg.block gm h.map.lt (fun hh => hNm hh.symm))).setCell _ _ (fun hh => h.ne hh.symm)
          lg := h.lg
          lm := h.lm
          ne := h.ne
          c0 := by rw [World.cell?_setCell_other _ _ _ _ (by simp)]; exact hc0
          c1 := by rw [World.cell?_setCell_other _ _ _ _ (by simp)]; exact hc1
          c2 := World.cell?_setCell_same _ _ _ hc2
          f1 := by rw [World.frozen?_setCell]; exact hf1
          f2 := by rw [World.frozen?_setCell]; exact hf2 }
/-- A row that is being written. -/
structure RowP (w : World) (B L gr : Nat) (xs : List Int) (rows : List (List Int)) (vS vN vA : Value) (rv : List Value) : Prop where
  own : w.ownsRow B 3 1 (.slice (some ⟨gr, 0, none⟩) L L) L (xs.map (Value.int .i64))
  free : LFree rows vS vN vA rv gr
theorem RowP.lt (h : RowP w B L gr xs rows vS vN vA rv) : B ≤ gr ∧ gr < w.heap.size := h.own.lt gr rfl
theorem RowP.grown (h : RowP w B L gr xs rows vS vN vA rv) {row : Option Nat} (hg : w.grownBy w' row) (hne : row ≠ some gr) : RowP w' B L gr xs rows vS vN vA rv :=
  ⟨kept_or h.own hg (fun q hq hh => hne (by rw [hq]; exact hh.symm)), h.free⟩
theorem RowP.below (h : RowP w B L gr xs rows vS vN vA rv) (hb : Below w.heap.size w w') : RowP w' B L gr xs rows vS vN vA rv := h.grown (below_grown hb (Nat.le_refl _)) (fun hh => by cases hh)
theorem RowP.appS {v' : Value} (h : RowP w B L gr xs rows vS vN vA rv) (hg : w.grownBy w' vS.ownBlock) (hloc : v'.ownBlock = vS.ownBlock ∨ v'.ownBlock = some w.heap.size) : RowP w' B L gr xs rows v' vN vA rv := by
  refine ⟨(h.grown hg h.free.1).own, ?_, h.free.2⟩
  rcases hloc with hl | hl
  · rw [hl]; exact h.free.1
  · rw [hl]
    intro hh
    have := h.lt.2
    have := Option.some.inj hh
    omega
theorem RowP.set (h : RowP w B L gr xs rows vS vN vA rv) (k : Nat) (z : Int) : RowP (w.setCell ⟨gr, k, none⟩ (.int .i64 z)) B L gr (xs.set k z) rows vS vN vA rv := by
  refine ⟨?_, h.free⟩
  rw [List.map_set]
  exact (h.own.stored k _).1
theorem OutS.setRow (h : OutS enc cl w0 w B g3 gm e sz L sts mp rows accs vS vN vA rv) (hr : RowP w B L gr xs rows vS vN vA rv) (k : Nat) (u : Value) : OutS enc cl w0 (w.setCell ⟨gr, k, none⟩ u) B g3 gm e sz L sts mp rows accs vS vN vA rv := by
  have := hr.lt
  have := h.lg
  have := h.lm
  refine h.grown (setCell_grown w _ u) (h.mem.setCell _ _ (by dsimp only; omega) hr.free) (fun hh => ?_) (fun hh => ?_)
  · have := Option.some.inj hh; dsimp only at this; omega
  · have := Option.some.inj hh; dsimp only at this; omega
end
end Go.Proofs.Ytkboeldafppicaa
