/- Keys of maps: what a program's own types read as. -/
import Derived.Test.YtkboeldafppicaaLstS
import Derived.DeepKeys4
set_option linter.unusedVariables false
namespace Go.Proofs.Ytkboeldafppicaa
open Go.RowKit Go.Maps

theorem laidOutB : laidOutB Try.prog = true := by kernel_rfl
def I64 (x : Int) : Prop := -9223372036854775808 ≤ x ∧ x ≤ 9223372036854775807
theorem wf_of (x : Int) (h : I64 x) : (Lit.int .i64 x).wf = true := WalkArith.wf_i64 h
theorem law_recent : Keyed Try.prog 103 := Keyed.of_law (deep_law_laid laidOutB (m := 2) (by omega) (of_decide_eq_true (by kernel_rfl)) (by kernel_rfl) (by kernel_rfl))
theorem law_view : Keyed Try.prog 148 := Keyed.of_law (deep_law_laid laidOutB (m := 3) (by omega) (of_decide_eq_true (by kernel_rfl)) (by kernel_rfl) (by kernel_rfl))
theorem law_int : Keyed Try.prog 3 := int_keyed Try.underlying3
theorem key_int (x : Int) (h : I64 x) : keyOf Try.prog 3 (.int .i64 x) = some (.int .i64 x) := keyOf_int_mk Try.underlying3 (wf_of x h)

theorem keyOf_lits {P : Program} {k : TypeId} {fs : Array Field} (hu : P.underlying k = some (.struct fs)) (hk : P.keyType k = true) {cs : Array Value} (hlen : cs.size = P.cellsOf k) {ls : List Lit} (hl : P.keyLits (P.types.size + 1) k cs.toList = some ls) :
    ∃ kl, keyOf P k (.agg cs) = some kl := by
  unfold keyOf
  rw [hu]
  simp [hk, Value.formed, hu, hlen, Value.cells, hl]
theorem keyLits_struct {P : Program} {d : Nat} {t : TypeId} {fs : Array Field} {cs : List Value} (hu : P.underlying t = some (.struct fs)) (hall : fs.all (fun f => f.name != "_") = true) (hlen : cs.length = P.cellsOf t) {ls : List (List Lit)}
    (hm : fs.toList.mapM (fun f => P.keyLits d f.type ((cs.drop f.offset).take (P.cellsOf f.type))) = some ls) : P.keyLits (d + 1) t cs = some ls.flatten := by
  unfold Program.keyLits
  rw [hu]
  simp only
  rw [if_pos ⟨hlen, hall⟩, hm]; rfl
theorem keyLits_int {P : Program} {d : Nat} {t : TypeId} (hu : P.underlying t = some (.int .i64)) {x : Int} (hw : (Lit.int .i64 x).wf = true) : P.keyLits (d + 1) t [.int .i64 x] = some [.int .i64 x] := by
  unfold Program.keyLits
  rw [hu]; simp [hw]
theorem keyLits_bool {P : Program} {d : Nat} {t : TypeId} (hu : P.underlying t = some .bool) {x : Bool} : P.keyLits (d + 1) t [.bool x] = some [.bool x] := by
  unfold Program.keyLits
  rw [hu]
theorem keyLits_array {P : Program} {d n : Nat} {t e : TypeId} {cs : List Value} (hu : P.underlying t = some (.array n e)) (hlen : cs.length = P.cellsOf t) {ls : List (List Lit)}
    (hm : (List.range n).mapM (fun i => P.keyLits d e ((cs.drop (i * P.cellsOf e)).take (P.cellsOf e))) = some ls) : P.keyLits (d + 1) t cs = some ls.flatten := by
  unfold Program.keyLits
  rw [hu]
  simp only
  rw [if_pos hlen, hm]; rfl
theorem types_size : ∃ n, Try.prog.types.size = n + 1 + 1 + 1 := ⟨Try.prog.types.size - 3, by kernel_rfl⟩
theorem recent_key : Try.prog.keyType 103 = true := by kernel_rfl
theorem recent_cells : Try.prog.cellsOf 103 = 3 := by kernel_rfl
theorem cells3 : Try.prog.cellsOf 3 = 1 := by kernel_rfl
theorem cells4 : Try.prog.cellsOf 4 = 1 := by kernel_rfl
theorem key_recent (a b : Int) (l : Bool) (ha : I64 a) (hb : I64 b) : ∃ kl, keyOf Try.prog 103 (.agg #[.int .i64 a, .int .i64 b, .bool l]) = some kl := by
  have h1 := wf_of a ha
  have h2 := wf_of b hb
  obtain ⟨n, hn⟩ := types_size
  refine keyOf_lits Try.underlying103 recent_key recent_cells.symm (ls := [[.int .i64 a], [.int .i64 b], [.bool l]].flatten) ?_
  refine keyLits_struct Try.underlying103 (by kernel_rfl) (by rw [recent_cells]; rfl) ?_
  simp only [List.mapM_cons, List.mapM_nil, hn]
  simp [cells3, cells4, keyLits_int Try.underlying3 h1, keyLits_int Try.underlying3 h2, keyLits_bool Try.underlying4]

theorem view_key : Try.prog.keyType 148 = true := by kernel_rfl
theorem view_cells : Try.prog.cellsOf 148 = 7 := by kernel_rfl
theorem six_cells : Try.prog.cellsOf 146 = 6 := by kernel_rfl
theorem key_view (b : Bool) (x0 x1 x2 x3 x4 x5 : Int) (h0 : I64 x0) (h1 : I64 x1) (h2 : I64 x2) (h3 : I64 x3) (h4 : I64 x4) (h5 : I64 x5) :
    ∃ kl, keyOf Try.prog 148 (.agg #[.bool b, .int .i64 x0, .int .i64 x1, .int .i64 x2, .int .i64 x3, .int .i64 x4, .int .i64 x5]) = some kl := by
  have g0 := wf_of x0 h0
  have g1 := wf_of x1 h1
  have g2 := wf_of x2 h2
  have g3 := wf_of x3 h3
  have g4 := wf_of x4 h4
  have g5 := wf_of x5 h5
  obtain ⟨n, hn⟩ := types_size
  have ha : Try.prog.keyLits (n + 1 + 1 + 1) 146 [.int .i64 x0, .int .i64 x1, .int .i64 x2, .int .i64 x3, .int .i64 x4, .int .i64 x5] = some [[.int .i64 x0], [.int .i64 x1], [.int .i64 x2], [.int .i64 x3], [.int .i64 x4], [.int .i64 x5]].flatten := by
    refine keyLits_array Try.underlying146 (by rw [six_cells]; rfl) ?_
    rw [show List.range 6 = [0, 1, 2, 3, 4, 5] from rfl]
    simp only [List.mapM_cons, List.mapM_nil]
    simp [cells3, keyLits_int Try.underlying3 g0, keyLits_int Try.underlying3 g1, keyLits_int Try.underlying3 g2, keyLits_int Try.underlying3 g3, keyLits_int Try.underlying3 g4, keyLits_int Try.underlying3 g5]
  refine keyOf_lits Try.underlying148 view_key view_cells.symm (ls := [[.bool b], [[.int .i64 x0], [.int .i64 x1], [.int .i64 x2], [.int .i64 x3], [.int .i64 x4], [.int .i64 x5]].flatten].flatten) ?_
  refine keyLits_struct Try.underlying148 (by kernel_rfl) (by rw [view_cells]; rfl) ?_
  simp only [List.mapM_cons, List.mapM_nil, hn]
  simp [cells4, six_cells, keyLits_bool Try.underlying4, ha]

end Go.Proofs.Ytkboeldafppicaa
