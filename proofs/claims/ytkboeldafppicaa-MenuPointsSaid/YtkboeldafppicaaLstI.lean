/- The beginning of a listing; what a map answers, as equations of runs. -/
import Derived.Test.YtkboeldafppicaaMachA
set_option linter.unusedVariables false
namespace Go.Proofs.Ytkboeldafppicaa
open Go.RowKit Go.Maps

theorem zero3M (w : World) : (zeroValue 3).run Try.prog w = .ok (.int .i64 0) w := by kernel_rfl
section
variable {w : World} {K t : TypeId} {b : Nat} {l : List (Value × Int)} {key : Value} {kl : Lit}
theorem NumMap.store (h : NumMap w K b l) (law : Keyed Try.prog K) (ht : Try.prog.underlying t = some (.map K 3)) (hkey : keyOf Try.prog K key = some kl) (hnew : ∀ c, (key, c) ∉ l) (hn : l.length < maxLen) (c : Int) (hc : I64 c) :
    ∃ w', (Instr.mapUpdate t (.map (some b)) key (.int .i64 c)).run Try.prog w = .ok () w' ∧ NumMap w' K b (l ++ [(key, c)]) ∧ w.grownBy w' (some b) := by
  obtain ⟨D, h1, h2, h3⟩ := h
  obtain ⟨w', hrun, r1, r2⟩ := h1.update law ht hn hkey (plainElem_int Try.underlying3 (wf_of c hc))
  exact ⟨w', hrun, NumMap.put law h1 h2 h3 hkey hnew c r1, r2⟩
theorem NumMap.lookYes (h : NumMap w K b l) (law : Keyed Try.prog K) (ht : Try.prog.underlying t = some (.map K 3)) (hkey : keyOf Try.prog K key = some kl) (c : Int) (hin : (key, c) ∈ l) :
    (Instr.lookup t (.map (some b)) key true).run Try.prog w = .ok (.tuple #[.int .i64 c, .bool true]) w ∧ (Instr.lookup t (.map (some b)) key false).run Try.prog w = .ok (.int .i64 c) w := by
  obtain ⟨D, h1, h2, h3⟩ := h
  obtain ⟨hat, hhas⟩ := (h3 key kl hkey).1 c hin
  constructor
  · obtain ⟨v, ps, hrun, hv⟩ := h1.look_ok law ht (zero3M w) (zd := .lit (.int .i64 0)) (zp := []) (plainElem_int Try.underlying3 (wf_of 0 (by unfold I64; omega))) hkey
    rw [hat] at hv
    rw [hhas] at hrun
    obtain ⟨c', rfl, hc', _⟩ := plainElem_int_inv Try.underlying3 hv
    have this : c' = c := by
      have h9 := congrArg Prod.fst hc'
      simpa using h9.symm
    rw [this] at hrun
    exact hrun
  · obtain ⟨c', hrun, hat', _⟩ := h1.lookup_int law ht Try.underlying3 (zero3M w) hkey
    rw [hat] at hat'
    obtain rfl : c = c' := by simpa using hat'
    exact hrun
theorem NumMap.lookNo (h : NumMap w K b l) (law : Keyed Try.prog K) (ht : Try.prog.underlying t = some (.map K 3)) (hkey : keyOf Try.prog K key = some kl) (hno : ∀ c, (key, c) ∉ l) :
    ∃ v, (Instr.lookup t (.map (some b)) key true).run Try.prog w = .ok (.tuple #[v, .bool false]) w := by
  obtain ⟨D, h1, h2, h3⟩ := h
  have hhas := (h3 key kl hkey).2 hno
  obtain ⟨v, ps, hrun, hv⟩ := h1.look_ok law ht (zero3M w) (zd := .lit (.int .i64 0)) (zp := []) (plainElem_int Try.underlying3 (wf_of 0 (by unfold I64; omega))) hkey
  rw [hhas] at hrun
  exact ⟨v, hrun⟩
end
theorem OutS.init {S : Type} {enc : S → Value} {cl : S → List Value} {w0 w3 : World} {e : TypeId} {sz L : Nat} {s0 : S} (hg : ((w0.alloc (.cells #[.int .i64 (L : Int), .slice none 0 0, .slice none 0 0] 73)).alloc (.map #[] 0)).grownBy w3 (some (w0.heap.size + 1))) (hm : NumMap w3 e (w0.heap.size + 1) (numbL enc [s0])) (hsz : (cl s0).length = sz) (hs0 : 0 < sz) :
    OutS enc cl w0 (w3.alloc (.cells (cl s0).toArray e)) (w0.heap.size + 2) w0.heap.size (w0.heap.size + 1) e sz L [s0] [s0] [] [] (.slice (some ⟨w3.heap.size, 0, none⟩) 1 1) (.slice none 0 0) (.slice none 0 0) [] := by
  have hz3 := hg.size
  simp at hz3
  have hB0 : Below w0.heap.size w0 ((w0.alloc (.cells #[.int .i64 (L : Int), .slice none 0 0, .slice none 0 0] 73)).alloc (.map #[] 0)) := ((Below.refl _ _).alloc (Nat.le_refl _) _).alloc (by simp) _
  have hB3 : Below w0.heap.size w0 w3 := hB0.grown hg (by simp; omega) (fun k hk => by cases hk; omega)
  have hB4 : Below w0.heap.size w0 (w3.alloc (.cells (cl s0).toArray e)) := hB3.alloc hB3.size _
  have hA : Below w3.heap.size w3 (w3.alloc (.cells (cl s0).toArray e)) := (Below.refl _ _).alloc (Nat.le_refl _) _
  have cell : ∀ o v, ((w0.alloc (.cells #[.int .i64 (L : Int), .slice none 0 0, .slice none 0 0] 73)).alloc (.map #[] 0)).cell? ⟨w0.heap.size, o, none⟩ = some v → (w3.alloc (.cells (cl s0).toArray e)).cell? ⟨w0.heap.size, o, none⟩ = some v := by
    intro o v h
    have h1 := (grown_cell hg (p := ⟨w0.heap.size, o, none⟩) (by simp; omega) (by simp)).trans h
    rw [hA.cell (cell_lt h1)]; exact h1
  have froz : ∀ o v, ((w0.alloc (.cells #[.int .i64 (L : Int), .slice none 0 0, .slice none 0 0] 73)).alloc (.map #[] 0)).cell? ⟨w0.heap.size, o, none⟩ = some v → ((w0.alloc (.cells #[.int .i64 (L : Int), .slice none 0 0, .slice none 0 0] 73)).alloc (.map #[] 0)).frozen? ⟨w0.heap.size, o, none⟩ = false → (w3.alloc (.cells (cl s0).toArray e)).frozen? ⟨w0.heap.size, o, none⟩ = false := by
    intro o v h hf
    have h1 := (grown_cell hg (p := ⟨w0.heap.size, o, none⟩) (by simp; omega) (by simp)).trans h
    have h2 := (grown_frozen hg (p := ⟨w0.heap.size, o, none⟩) (by simp; omega) (by simp)).trans hf
    rw [hA.frozen (cell_lt h1)]; exact h2
  have hS := World.ownsRow_lit (base := w0.heap.size + 2) (e := e) (size := sz) w3 (cl s0).toArray 1 (by omega) (by decide) (by simp [hsz])
  exact { mem := { bel := hB4
                   hB := by omega
                   hBw := by simp; omega
                   S := by simpa using hS
                   N := ⟨rfl, .inl ⟨rfl, rfl⟩⟩
                   A := ⟨rfl, .inl ⟨rfl, rfl⟩⟩
                   R := fun i hi => by simp at hi
                   SN := by simp [Value.ownBlock]
                   SA := by simp [Value.ownBlock]
                   NA := .inl rfl }
          map := hm.below hA hm.lt
          lg := ⟨Nat.le_refl _, by omega⟩
          lm := ⟨by omega, by omega⟩
          ne := by omega
          c0 := cell 0 _ (by go_simp)
          c1 := cell 1 _ (by go_simp)
          c2 := cell 2 _ (by go_simp)
          f1 := froz 1 (.slice none 0 0) (by go_simp) (by go_simp)
          f2 := froz 2 (.slice none 0 0) (by go_simp) (by go_simp) }
section
variable {S : Type} {enc : S → Value} {cl : S → List Value} {w0 w w' : World} {B g3 gm : Nat} {e : TypeId} {sz L : Nat} {sts mp : List S} {rows : List (List Int)} {accs : List Bool} {vS vN vA : Value} {rv : List Value}
theorem OutS.preN (h : OutS enc cl w0 w B g3 gm e sz L sts mp rows accs vS vN vA rv) (hg : w.grownBy w' vN.ownBlock) : w'.cell? ⟨g3, 1, none⟩ = some vN ∧ w'.frozen? ⟨g3, 1, none⟩ = false :=
  have hN3 : vN.ownBlock ≠ some g3 := (h.mem.low g3 h.lg.2).2.1
  ⟨(grown_cell hg (cell_lt h.c1) hN3).trans h.c1, (grown_frozen hg (p := ⟨g3, 1, none⟩) (cell_lt h.c1) hN3).trans h.f1⟩
theorem OutS.preA (h : OutS enc cl w0 w B g3 gm e sz L sts mp rows accs vS vN vA rv) (hg : w.grownBy w' vA.ownBlock) : w'.cell? ⟨g3, 2, none⟩ = some vA ∧ w'.frozen? ⟨g3, 2, none⟩ = false :=
  have hN3 : vA.ownBlock ≠ some g3 := (h.mem.low g3 h.lg.2).2.2.1
  ⟨(grown_cell hg (cell_lt h.c2) hN3).trans h.c2, (grown_frozen hg (p := ⟨g3, 2, none⟩) (cell_lt h.c2) hN3).trans h.f2⟩
end
theorem row_info : (Try.prog.info? 26).map (fun i => (i.zero, i.size, i.bytes)) = some (some (.slice none 0 0), 1, 24) := by kernel_rfl
theorem boolM_info : (Try.prog.info? 4).map (fun i => (i.zero, i.size, i.bytes)) = some (some (.bool false), 1, 1) := by kernel_rfl
theorem make_intsM (n : Nat) (hn : n ≤ 1000000) : ∀ w : World, (Instr.makeSlice 26 (.int .i64 (n : Int)) (.int .i64 (n : Int))).run Try.prog w = .ok (.slice (some ⟨w.heap.size, 0, none⟩) n n) (w.alloc (.cells (List.replicate n (Value.int .i64 0)).toArray 3)) := by
  obtain ⟨i0, hi, hz0, hz1, hz2⟩ := info_parts int_info
  intro w
  have hr := run_make (P := Try.prog) w 26 3 i0 (.int .i64 0) Try.underlying26 hi hz0 .i64 .i64 n n (by omega) (by omega) (by rw [hz2]; omega) (by omega)
  simp only [Int.toNat_natCast, hz1, Nat.mul_one] at hr
  have e : madeCells (Value.int .i64 0).cells n = (List.replicate n (Value.int .i64 0)).toArray := Array.ext' (by
    rw [show (Value.int .i64 0).cells = #[Value.int .i64 0] from rfl, toList_madeCells_one])
  rw [e] at hr
  exact hr
theorem RowP.made {w0 w : World} {B : Nat} {e : TypeId} {sz ns : Nat} {sc : List Value} {rows : List (List Int)} {accs : List Bool} {vS vN vA : Value} {rv : List Value} (h : LMem w0 w B e sz ns sc rows accs vS vN vA rv) (L : Nat) (hL : L ≤ 1000000) : RowP (w.alloc (.cells (List.replicate L (Value.int .i64 0)).toArray 3)) B L w.heap.size (rowPad L []) rows vS vN vA rv := by
  refine ⟨?_, h.new _ (Nat.le_refl _)⟩
  have := World.ownsRow_lit (base := B) (e := 3) (size := 1) w (List.replicate L (Value.int .i64 0)).toArray L h.hBw (by unfold maxLen; omega) (by simp)
  rw [rowPad_nil, List.map_replicate]
  simpa using this
end Go.Proofs.Ytkboeldafppicaa
