/- Machines in memory. -/
import Derived.Test.YtkboeldafppicaaLstS
import Derived.Test.YtkboeldafppicaaKeys
set_option linter.unusedVariables false
namespace Go.Proofs.Ytkboeldafppicaa
open Go.RowKit Go.Maps

/-- A machine's rows and acceptances in memory. -/
structure MachAt (w : World) (Na : Option Addr) (rows : List (List Int)) (Aa : Option Addr) (accs : List Bool) : Prop where
  nlen : rows.length ≤ 140737488355328
  nat_ : rows = [] ∨ ∃ b off, Na = some ⟨b, off, none⟩ ∧ ∀ i, i < rows.length → ∃ A c, w.cell? ⟨b, off + i, none⟩ = some (.slice A (rows[i]?.getD []).length c) ∧ Ints w A (rows[i]?.getD [])
  alen : accs.length ≤ 140737488355328
  aat : accs = [] ∨ ∃ b off, Aa = some ⟨b, off, none⟩ ∧ ∀ i, i < accs.length → w.cell? ⟨b, off + i, none⟩ = some (.bool (accs[i]?.getD false))
theorem MachAt.below {w w' : World} {Na Aa : Option Addr} {rows : List (List Int)} {accs : List Bool} (h : MachAt w Na rows Aa accs) (hb : Below w.heap.size w w') : MachAt w' Na rows Aa accs := by
  refine ⟨h.nlen, ?_, h.alen, ?_⟩
  · rcases h.nat_ with e | ⟨b, off, ha, hc⟩
    · exact .inl e
    · refine .inr ⟨b, off, ha, fun i hi => ?_⟩
      obtain ⟨A, c, h1, h2⟩ := hc i hi
      exact ⟨A, c, by rw [hb.cell (cell_lt h1)]; exact h1, h2.below hb⟩
  · rcases h.aat with e | ⟨b, off, ha, hc⟩
    · exact .inl e
    · exact .inr ⟨b, off, ha, fun i hi => by rw [hb.cell (cell_lt (hc i hi))]; exact hc i hi⟩
def machV (L : Int) (Na : Option Addr) (rn nc : Nat) (Aa : Option Addr) (an ac : Nat) : Value := .agg #[.int .i64 L, .slice Na rn nc, .slice Aa an ac]
theorem own_ints_of {w w' : World} {B : Nat} {g : Nat} {xs : List Int} {cg : Nat} (h : w.ownsRow B 3 1 (.slice (some ⟨g, 0, none⟩) xs.length cg) xs.length (xs.map (Value.int .i64))) (hk : ∀ a : Addr, B ≤ a.block → w'.cell? a = w.cell? a) (hl : xs.length ≤ 140737488355328) (hb : ∀ x ∈ xs, I64 x) : Ints w' (some ⟨g, 0, none⟩) xs := by
  refine ⟨hl, .inr ⟨g, 0, rfl, fun i hi => ?_⟩, hb⟩
  rw [hk _ (by have := (h.lt g rfl).1; exact this), Nat.zero_add, h.cellAt _ (by omega), List.getElem?_map, List.getElem?_eq_getElem hi]
  rfl
theorem OutS.mach {S : Type} {enc : S → Value} {cl : S → List Value} {w0 w w' : World} {B g3 gm : Nat} {e : TypeId} {sz L : Nat} {sts mp : List S} {rows : List (List Int)} {accs : List Bool} {vS vN vA : Value} {rv : List Value} (h : OutS enc cl w0 w B g3 gm e sz L sts mp rows accs vS vN vA rv) (hk : ∀ a : Addr, B ≤ a.block → w'.cell? a = w.cell? a) (hr : rows.length ≤ 1000000) (ha : accs.length ≤ 1000000) (hx : ∀ r ∈ rows, r.length ≤ 1000000 ∧ ∀ x ∈ r, I64 x) :
    ∃ Na nc Aa ac, vN = .slice Na rows.length nc ∧ vA = .slice Aa accs.length ac ∧ MachAt w' Na rows Aa accs := by
  have hN := h.mem.N
  have hA := h.mem.A
  have hR := h.mem.R
  obtain ⟨Na, nc, hvN, hNat⟩ : ∃ Na nc, vN = .slice Na rows.length nc ∧ (rows = [] ∨ ∃ b off, Na = some ⟨b, off, none⟩ ∧ ∀ i, i < rows.length → ∃ A c, w'.cell? ⟨b, off + i, none⟩ = some (.slice A (rows[i]?.getD []).length c) ∧ Ints w' A (rows[i]?.getD [])) := by
    rcases hN.2 with ⟨hv, hn⟩ | ⟨g, c, cur, hv, _⟩
    · exact ⟨none, 0, by rw [hv, hn], .inl (List.eq_nil_of_length_eq_zero hn)⟩
    · refine ⟨_, c, hv, .inr ⟨g, 0, rfl, fun i hi => ?_⟩⟩
      obtain ⟨r, e1, ⟨g2, cg, e2⟩, e3, _⟩ := hR i hi
      have hmem : rows[i]?.getD [] ∈ rows := by rw [List.getElem?_eq_getElem hi]; exact List.getElem_mem hi
      obtain ⟨hxl, hxb⟩ := hx _ hmem
      rw [hv] at hN
      rw [e2] at e1 e3
      exact ⟨_, _, by rw [hk _ (by have := (World.ownsRow.lt hN g rfl).1; exact this), Nat.zero_add, World.ownsRow.cellAt hN _ (by omega)]; exact e1, own_ints_of e3 hk (by omega) hxb⟩
  obtain ⟨Aa, ac, hvA, hAat⟩ : ∃ Aa ac, vA = .slice Aa accs.length ac ∧ (accs = [] ∨ ∃ b off, Aa = some ⟨b, off, none⟩ ∧ ∀ i, i < accs.length → w'.cell? ⟨b, off + i, none⟩ = some (.bool (accs[i]?.getD false))) := by
    rcases hA.2 with ⟨hv, hn⟩ | ⟨g, c, cur, hv, _⟩
    · exact ⟨none, 0, by rw [hv, hn], .inl (List.eq_nil_of_length_eq_zero hn)⟩
    · refine ⟨_, c, hv, .inr ⟨g, 0, rfl, fun i hi => ?_⟩⟩
      rw [hv] at hA
      rw [hk _ (by have := (World.ownsRow.lt hA g rfl).1; exact this), Nat.zero_add, World.ownsRow.cellAt hA _ (by omega), List.getElem?_map, List.getElem?_eq_getElem hi]
      rfl
  exact ⟨Na, nc, Aa, ac, hvN, hvA, ⟨by omega, hNat, by omega, hAat⟩⟩
/-- A machine that lies in blocks from B on, its rows in blocks of their own that may be written. -/
structure MachFrom (w : World) (B : Nat) (Na : Option Addr) (rows : List (List Int)) (Aa : Option Addr) (accs : List Bool) : Prop where
  mach : MachAt w Na rows Aa accs
  own : rows = [] ∨ ∃ b, Na = some ⟨b, 0, none⟩ ∧ B ≤ b ∧ ∀ i, i < rows.length → ∃ g cg, w.cell? ⟨b, i, none⟩ = some (.slice (some ⟨g, 0, none⟩) (rows[i]?.getD []).length cg) ∧ B ≤ g ∧ g ≠ b ∧ g < w.heap.size ∧ ∀ j, w.frozen? ⟨g, j, none⟩ = false
  ownA : accs = [] ∨ ∃ b, Aa = some ⟨b, 0, none⟩ ∧ B ≤ b
theorem MachFrom.weak {w : World} {B B' : Nat} {Na Aa : Option Addr} {rows : List (List Int)} {accs : List Bool} (h : MachFrom w B Na rows Aa accs) (hb : B' ≤ B) : MachFrom w B' Na rows Aa accs := by
  refine ⟨h.mach, ?_, ?_⟩
  · rcases h.own with e | ⟨b, h1, h2, h3⟩
    · exact .inl e
    · exact .inr ⟨b, h1, by omega, fun i hi => by obtain ⟨g, cg, a1, a2, a3, a4⟩ := h3 i hi; exact ⟨g, cg, a1, by omega, a3, a4⟩⟩
  · rcases h.ownA with e | ⟨b, h1, h2⟩
    · exact .inl e
    · exact .inr ⟨b, h1, by omega⟩
theorem MachFrom.same {w w' : World} {B : Nat} {Na Aa : Option Addr} {rows : List (List Int)} {accs : List Bool} (h : MachFrom w B Na rows Aa accs) (hk : ∀ k, B ≤ k → k < w.heap.size → w'.heap[k]? = w.heap[k]?) (hs : w.heap.size ≤ w'.heap.size) : MachFrom w' B Na rows Aa accs := by
  have hcell : ∀ (a : Addr) (v : Value), B ≤ a.block → w.cell? a = some v → w'.cell? a = some v := fun a v ha hv => (World.cell?_of_block (hk a.block ha (cell_lt hv))).trans hv
  have hM := h.mach
  refine ⟨⟨hM.nlen, ?_, hM.alen, ?_⟩, ?_, h.ownA⟩
  · rcases h.own with e | ⟨b, h1, h2, h3⟩
    · exact .inl e
    · rcases hM.nat_ with e | ⟨b', off, ha, hc⟩
      · exact .inl e
      · rw [h1] at ha
        simp only [Option.some.injEq, Addr.mk.injEq, and_true] at ha
        obtain ⟨rfl, rfl⟩ := ha
        refine .inr ⟨b, 0, h1, fun i hi => ?_⟩
        obtain ⟨A, c, c1, c2⟩ := hc i hi
        obtain ⟨g, cg, a1, a2, _⟩ := h3 i hi
        rw [Nat.zero_add] at c1 ⊢
        have e := c1.symm.trans a1
        simp only [Option.some.injEq, Value.slice.injEq, true_and] at e
        refine ⟨A, c, hcell _ _ h2 c1, ⟨c2.len, ?_, c2.bd⟩⟩
        rcases c2.at_ with e2 | ⟨b2, o2, hA, hcc⟩
        · exact .inl e2
        · have : b2 = g := by rw [hA] at e; simp only [Option.some.injEq, Addr.mk.injEq, and_true] at e; exact e.1.1
          exact .inr ⟨b2, o2, hA, fun j hj => hcell _ _ (by rw [this]; exact a2) (hcc j hj)⟩
  · rcases h.ownA with e | ⟨b, h1, h2⟩
    · exact .inl e
    · rcases hM.aat with e | ⟨b', off, ha, hc⟩
      · exact .inl e
      · rw [h1] at ha
        simp only [Option.some.injEq, Addr.mk.injEq, and_true] at ha
        obtain ⟨rfl, rfl⟩ := ha
        exact .inr ⟨b, 0, h1, fun i hi => hcell _ _ h2 (hc i hi)⟩
  · rcases h.own with e | ⟨b, h1, h2, h3⟩
    · exact .inl e
    · refine .inr ⟨b, h1, h2, fun i hi => ?_⟩
      obtain ⟨g, cg, a1, a2, a3, a4, a5⟩ := h3 i hi
      refine ⟨g, cg, hcell _ _ h2 a1, a2, a3, by omega, fun j => ?_⟩
      have := hk g a2 a4
      have h6 := a5 j
      unfold World.frozen? at h6 ⊢
      rw [this]; exact h6
theorem MachFrom.setCell {w : World} {B : Nat} {Na Aa : Option Addr} {rows : List (List Int)} {accs : List Bool} (h : MachFrom w B Na rows Aa accs) (p : Addr) (v : Value) (hp : p.block < B) : MachFrom (w.setCell p v) B Na rows Aa accs :=
  h.same (fun k hk _ => Below.heap_setCell _ _ _ _ (by omega)) (by simp)
theorem MachFrom.below {w w' : World} {B : Nat} {Na Aa : Option Addr} {rows : List (List Int)} {accs : List Bool} (h : MachFrom w B Na rows Aa accs) (hb : Below w.heap.size w w') : MachFrom w' B Na rows Aa accs :=
  h.same (fun k _ hk => hb.block k hk) hb.size
theorem OutS.machF {S : Type} {enc : S → Value} {cl : S → List Value} {w0 w w' : World} {B g3 gm : Nat} {e : TypeId} {sz L : Nat} {sts mp : List S} {rows : List (List Int)} {accs : List Bool} {vS vN vA : Value} {rv : List Value} (h : OutS enc cl w0 w B g3 gm e sz L sts mp rows accs vS vN vA rv) (hk : ∀ a : Addr, B ≤ a.block → w'.heap[a.block]? = w.heap[a.block]?) (hs : w.heap.size ≤ w'.heap.size) (hr : rows.length ≤ 1000000) (ha : accs.length ≤ 1000000) (hx : ∀ r ∈ rows, r.length ≤ 1000000 ∧ ∀ x ∈ r, I64 x) (hpos : ∀ i, i < rows.length → 0 < (rows[i]?.getD []).length) :
    ∃ Na nc Aa ac, vN = .slice Na rows.length nc ∧ vA = .slice Aa accs.length ac ∧ MachFrom w' B Na rows Aa accs := by
  have hc : ∀ a : Addr, B ≤ a.block → w'.cell? a = w.cell? a := fun a ha => World.cell?_of_block (hk a ha)
  obtain ⟨Na, nc, Aa, ac, hvN, hvA, hM⟩ := h.mach hc hr ha hx
  refine ⟨Na, nc, Aa, ac, hvN, hvA, ⟨hM, ?_, ?_⟩⟩
  · by_cases hn : rows.length = 0
    · exact .inl (List.eq_nil_of_length_eq_zero hn)
    · have hN := h.mem.N
      rcases hN.2 with ⟨hv, hn2⟩ | ⟨b, c, cur, hv, _⟩
      · exact absurd hn2 hn
      · have hNa : Na = some ⟨b, 0, none⟩ := by rw [hv] at hvN; simp only [Value.slice.injEq] at hvN; exact hvN.1.symm
        rw [hv] at hN
        refine .inr ⟨b, hNa, (World.ownsRow.lt hN b rfl).1, fun i hi => ?_⟩
        obtain ⟨r, e1, ⟨g, cg, e2⟩, e3, e4, e5, e6⟩ := h.mem.R i hi
        rw [e2] at e1 e3 e5
        refine ⟨g, cg, ?_, (e3.lt g rfl).1, fun hh => e5 (by rw [hv, hh]; rfl), Nat.lt_of_lt_of_le (e3.lt g rfl).2 hs, fun j => ?_⟩
        · rw [hc _ (World.ownsRow.lt hN b rfl).1, World.ownsRow.cellAt hN _ (by omega)]; exact e1
        · rcases e3.2 with ⟨hv3, _⟩ | ⟨g', c', cur', hv3, _, hh3, _⟩
          · cases hv3
          · simp only [Value.slice.injEq, Option.some.injEq, Addr.mk.injEq, and_true] at hv3
            obtain ⟨rfl, _⟩ := hv3
            have := hk ⟨g, j, none⟩ (e3.lt g rfl).1
            unfold World.frozen?
            rw [this, hh3]; simp
  · by_cases hn : accs.length = 0
    · exact .inl (List.eq_nil_of_length_eq_zero hn)
    · have hA := h.mem.A
      rcases hA.2 with ⟨hv, hn2⟩ | ⟨b, c, cur, hv, _⟩
      · exact absurd hn2 hn
      · rw [hv] at hA
        refine .inr ⟨b, ?_, (World.ownsRow.lt hA b rfl).1⟩
        rw [hv] at hvA; simp only [Value.slice.injEq] at hvA; exact hvA.1.symm
/-- The row behind the first k letters, with zeros for the others. -/
def rowPad (L : Nat) (r : List Int) : List Int := r ++ List.replicate (L - r.length) 0
theorem rowPad_set (L : Nat) (r : List Int) (z : Int) (h : r.length < L) : (rowPad L r).set r.length z = rowPad L (r ++ [z]) := by
  unfold rowPad
  obtain ⟨d, hd⟩ : ∃ d, L - r.length = d + 1 := ⟨L - r.length - 1, by omega⟩
  rw [List.length_append, List.length_singleton, show L - (r.length + 1) = d by omega, hd, List.set_append_right _ _ (Nat.le_refl _), Nat.sub_self, List.replicate_succ, List.set_cons_zero, List.append_assoc]
  rfl
theorem rowPad_full (L : Nat) (r : List Int) (h : r.length = L) : rowPad L r = r := by unfold rowPad; rw [h, Nat.sub_self]; simp
theorem rowPad_nil (L : Nat) : rowPad L [] = List.replicate L 0 := by unfold rowPad; simp
theorem rowPad_len (L : Nat) (r : List Int) (h : r.length ≤ L) : (rowPad L r).length = L := by unfold rowPad; simp; omega
/-- How many states there are when all have been looked at. -/
def Full {S : Type} [DecidableEq S] (L : Nat) (next : S → Nat → S) (acc : S → Bool) (s0 : S) (i : Nat) : Prop := i = (listTo L next acc s0 i).1.length ∧ ∀ j, j < i → j < (listTo L next acc s0 j).1.length
theorem Full.unique {S : Type} [DecidableEq S] {L : Nat} {next : S → Nat → S} {acc : S → Bool} {s0 : S} {i j : Nat} (h : Full L next acc s0 i) (h2 : Full L next acc s0 j) : i = j := by
  rcases Nat.lt_trichotomy i j with g | g | g
  · have := h2.2 i g; have := h.1; omega
  · exact g
  · have := h.2 j g; have := h2.1; omega
end Go.Proofs.Ytkboeldafppicaa
