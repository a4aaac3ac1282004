/- The memory of the machine that the document makes plain: at first, and as a machine. -/
import Derived.Test.YtkboeldafppicaaOutP
import Derived.Test.YtkboeldafppicaaMachA
set_option linter.unusedVariables false
namespace Go.Proofs.Ytkboeldafppicaa
open Go.RowKit Go.Maps

theorem LMem.mach {w0 w w' : World} {B : Nat} {e : TypeId} {sz ns : Nat} {sc : List Value} {rows : List (List Int)} {accs : List Bool} {vS vN vA : Value} {rv : List Value} (h : LMem w0 w B e sz ns sc rows accs vS vN vA rv) (hk : ∀ a : Addr, B ≤ a.block → w'.cell? a = w.cell? a) (hr : rows.length ≤ 1000000) (ha : accs.length ≤ 1000000) (hx : ∀ r ∈ rows, r.length ≤ 1000000 ∧ ∀ x ∈ r, I64 x) :
    ∃ Na nc Aa ac, vN = .slice Na rows.length nc ∧ vA = .slice Aa accs.length ac ∧ MachAt w' Na rows Aa accs := by
  have hN := h.N
  have hA := h.A
  have hR := h.R
  obtain ⟨Na, nc, hvN, hNat⟩ : ∃ Na nc, vN = .slice Na rows.length nc ∧ (rows = [] ∨ ∃ b off, Na = some ⟨b, off, none⟩ ∧ ∀ i, i < rows.length → ∃ A c, w'.cell? ⟨b, off + i, none⟩ = some (.slice A (rows[i]?.getD []).length c) ∧ Ints w' A (rows[i]?.getD [])) := by
    rcases hN.2 with ⟨hv, hn⟩ | ⟨g, c, cur, hv, _⟩
    · exact ⟨none, 0, by rw [hv, hn], .inl (List.eq_nil_of_length_eq_zero hn)⟩
    · refine ⟨_, c, hv, .inr ⟨g, 0, rfl, fun i hi => ?_⟩⟩
      obtain ⟨r, e1, ⟨g2, cg, e2⟩, e3, _⟩ := hR i hi
      have hmem : rows[i]?.getD [] ∈ rows := by rw [List.getElem?_eq_getElem hi]; exact List.getElem_mem hi
      obtain ⟨hxl, hxb⟩ := hx _ hmem
      rw [hv] at hN
      rw [e2] at e1 e3
      exact ⟨_, _, by rw [hk _ (by have := (World.ownsRow.lt hN g rfl).1; exact this), Nat.zero_add, World.ownsRow.cellAt hN _ (by omega)]; exact e1, own_ints_of e3 hk (by omega) hxb⟩
  obtain ⟨Aa, ac, hvA, hAat⟩ : ∃ Aa ac, vA = .slice Aa accs.length ac ∧ (accs = [] ∨ ∃ b off, Aa = some ⟨b, off, none⟩ ∧ ∀ i, i < accs.length → w'.cell? ⟨b, off + i, none⟩ = some (.bool (accs[i]?.getD false))) := by
    rcases hA.2 with ⟨hv, hn⟩ | ⟨g, c, cur, hv, _⟩
    · exact ⟨none, 0, by rw [hv, hn], .inl (List.eq_nil_of_length_eq_zero hn)⟩
    · refine ⟨_, c, hv, .inr ⟨g, 0, rfl, fun i hi => ?_⟩⟩
      rw [hv] at hA
      rw [hk _ (by have := (World.ownsRow.lt hA g rfl).1; exact this), Nat.zero_add, World.ownsRow.cellAt hA _ (by omega), List.getElem?_map, List.getElem?_eq_getElem hi]
      rfl
  exact ⟨Na, nc, Aa, ac, hvN, hvA, ⟨by omega, hNat, by omega, hAat⟩⟩
theorem LMem.machF {w0 w w' : World} {B : Nat} {e : TypeId} {sz ns : Nat} {sc : List Value} {rows : List (List Int)} {accs : List Bool} {vS vN vA : Value} {rv : List Value} (h : LMem w0 w B e sz ns sc rows accs vS vN vA rv) (hk : ∀ a : Addr, B ≤ a.block → w'.heap[a.block]? = w.heap[a.block]?) (hs : w.heap.size ≤ w'.heap.size) (hr : rows.length ≤ 1000000) (ha : accs.length ≤ 1000000) (hx : ∀ r ∈ rows, r.length ≤ 1000000 ∧ ∀ x ∈ r, I64 x) (hpos : ∀ i, i < rows.length → 0 < (rows[i]?.getD []).length) :
    ∃ Na nc Aa ac, vN = .slice Na rows.length nc ∧ vA = .slice Aa accs.length ac ∧ MachFrom w' B Na rows Aa accs := by
  have hc : ∀ a : Addr, B ≤ a.block → w'.cell? a = w.cell? a := fun a ha => World.cell?_of_block (hk a ha)
  obtain ⟨Na, nc, Aa, ac, hvN, hvA, hM⟩ := h.mach hc hr ha hx
  refine ⟨Na, nc, Aa, ac, hvN, hvA, ⟨hM, ?_, ?_⟩⟩
  · by_cases hn : rows.length = 0
    · exact .inl (List.eq_nil_of_length_eq_zero hn)
    · have hN := h.N
      rcases hN.2 with ⟨hv, hn2⟩ | ⟨b, c, cur, hv, _⟩
      · exact absurd hn2 hn
      · have hNa : Na = some ⟨b, 0, none⟩ := by rw [hv] at hvN; simp only [Value.slice.injEq] at hvN; exact hvN.1.symm
        rw [hv] at hN
        refine .inr ⟨b, hNa, (World.ownsRow.lt hN b rfl).1, fun i hi => ?_⟩
        obtain ⟨r, e1, ⟨g, cg, e2⟩, e3, e4, e5, e6⟩ := h.R i hi
        rw [e2] at e1 e3 e5
        refine ⟨g, cg, ?_, (e3.lt g rfl).1, fun hh => e5 (by rw [hv, hh]; rfl), Nat.lt_of_lt_of_le (e3.lt g rfl).2 hs, fun j => ?_⟩
        · rw [hc _ (World.ownsRow.lt hN b rfl).1, World.ownsRow.cellAt hN _ (by omega)]; exact e1
        · rcases e3.2 with ⟨hv3, _⟩ | ⟨g', c', cur', hv3, _, hh3, _⟩
          · cases hv3
          · simp only [Value.slice.injEq, Option.some.injEq, Addr.mk.injEq, and_true] at hv3
            obtain ⟨rfl, _⟩ := hv3
            have := hk ⟨g, j, none⟩ (e3.lt g rfl).1
            unfold World.frozen?
            rw [this, hh3]; simp
  · by_cases hn : accs.length = 0
    · exact .inl (List.eq_nil_of_length_eq_zero hn)
    · have hA := h.A
      rcases hA.2 with ⟨hv, hn2⟩ | ⟨b, c, cur, hv, _⟩
      · exact absurd hn2 hn
      · rw [hv] at hA
        refine .inr ⟨b, ?_, (World.ownsRow.lt hA b rfl).1⟩
        rw [hv] at hvA; simp only [Value.slice.injEq] at hvA; exact hvA.1.symm

theorem OutP.init {w0 w3 : World} {L : Nat} {k0 : Int} (hg : (w0.alloc (.map #[] 0)).grownBy w3 (some w0.heap.size)) (hm : NumMap w3 3 w0.heap.size (numbL VIo [k0])) :
    OutP w0 ((w3.alloc (.cells #[.int .i64 0] 3)).alloc (.cells #[.int .i64 (L : Int), .slice none 0 0, .slice none 0 0] 25)) (w0.heap.size + 1) (w3.heap.size + 1) w0.heap.size L [0] [k0] [] [] (.slice (some ⟨w3.heap.size, 0, none⟩) 1 1) (.slice none 0 0) (.slice none 0 0) [] := by
  have hz3 := hg.size
  simp at hz3
  have hB0 : Below w0.heap.size w0 (w0.alloc (.map #[] 0)) := (Below.refl _ _).alloc (Nat.le_refl _) _
  have hB3 : Below w0.heap.size w0 w3 := hB0.grown hg (by simp) (fun k hk => by cases hk; omega)
  have hB4 : Below w0.heap.size w0 (w3.alloc (.cells #[.int .i64 0] 3)) := hB3.alloc hB3.size _
  have hB5 := hB4.alloc hB4.size (.cells #[.int .i64 (L : Int), .slice none 0 0, .slice none 0 0] 25)
  have hA : Below w3.heap.size w3 ((w3.alloc (.cells #[.int .i64 0] 3)).alloc (.cells #[.int .i64 (L : Int), .slice none 0 0, .slice none 0 0] 25)) := ((Below.refl _ _).alloc (Nat.le_refl _) _).alloc (by simp) _
  have hS := World.ownsRow_lit (base := w0.heap.size + 1) (e := 3) (size := 1) w3 #[.int .i64 0] 1 (by omega) (by decide) (by simp)
  have hS1 : w3.alloc (.cells #[.int .i64 0] 3) = w3.alloc (.cells #[.int .i64 0] 3) := rfl
  have hS2 := kept_or hS (below_grown (m := (w3.alloc (.cells #[.int .i64 0] 3)).heap.size) ((Below.refl _ (w3.alloc (.cells #[.int .i64 0] 3))).alloc (Nat.le_refl _) (.cells #[.int .i64 (L : Int), .slice none 0 0, .slice none 0 0] 25)) (Nat.le_refl _)) (fun q hq => by cases hq)
  have free : ∀ q, q ≠ w3.heap.size → LFree [] (.slice (some ⟨w3.heap.size, 0, none⟩) 1 1) (.slice none 0 0) (.slice none 0 0) [] q := fun q hq =>
    ⟨by simp [Value.ownBlock]; omega, by simp [Value.ownBlock], by simp [Value.ownBlock], fun i hi => by simp at hi⟩
  exact { mem := { bel := hB5
                   hB := by omega
                   hBw := by simp; omega
                   S := by simpa using hS2
                   N := ⟨rfl, .inl ⟨rfl, rfl⟩⟩
                   A := ⟨rfl, .inl ⟨rfl, rfl⟩⟩
                   R := fun i hi => by simp at hi
                   SN := by simp [Value.ownBlock]
                   SA := by simp [Value.ownBlock]
                   NA := .inl rfl }
          map := hm.below hA hm.lt
          lg := ⟨by omega, by simp⟩
          lm := Nat.le_refl _
          ne := by omega
          f3 := free _ (by omega)
          fm := free _ (by omega)
          c0 := by go_simp
          c1 := by go_simp
          c2 := by go_simp
          z1 := by go_simp
          z2 := by go_simp }
end Go.Proofs.Ytkboeldafppicaa
