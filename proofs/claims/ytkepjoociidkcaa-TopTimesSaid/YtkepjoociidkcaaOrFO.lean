/- Facts of the call's own; History and Until of package order, and the document's own. -/
import Derived.Test.YtkepjoociidkcaaOrN
import Derived.Test.YtkepjoociidkcaaOrTellM
import Derived.Test.YtkepjoociidkcaaAppend
set_option linter.unusedVariables false
namespace Go.Proofs.Ytkepjoociidkcaa
open Go.RowKit

theorem fc_info : (Try.prog.info? 24).map (fun i => (i.zero, i.size, i.bytes)) = some (some (.agg #[.int .i64 0, .int .i64 0, .int .i64 0, .int .i64 0, .int .i64 0]), 5, 40) := by kernel_rfl
def fcCells (l : List Fct) : List Value := l.flatMap (fun f => [Value.int .i64 f.a, Value.int .i64 f.c, Value.int .i64 f.f, Value.int .i64 f.t, Value.int .i64 f.m])
theorem fcCells_len (l : List Fct) : (fcCells l).length = l.length * 5 := by
  induction l with
  | nil => rfl
  | cons x t ih => simp [fcCells] at ih ⊢; omega
theorem fcCells_snoc (l : List Fct) (f : Fct) : fcCells (l ++ [f]) = fcCells l ++ [.int .i64 f.a, .int .i64 f.c, .int .i64 f.f, .int .i64 f.t, .int .i64 f.m] := by simp [fcCells]
theorem fcCells_at (l : List Fct) (i : Nat) (h : i < l.length) : (fcCells l)[i * 5]? = some (.int .i64 (fAt l i).a) ∧ (fcCells l)[i * 5 + 1]? = some (.int .i64 (fAt l i).c) ∧ (fcCells l)[i * 5 + 2]? = some (.int .i64 (fAt l i).f) ∧ (fcCells l)[i * 5 + 3]? = some (.int .i64 (fAt l i).t) ∧ (fcCells l)[i * 5 + 4]? = some (.int .i64 (fAt l i).m) := by
  unfold fAt
  induction l generalizing i with
  | nil => simp at h
  | cons x t ih =>
    cases i with
    | zero => simp [fcCells]
    | succ i =>
      have := ih i (by simpa using h)
      have e1 : (i + 1) * 5 = i * 5 + 1 + 1 + 1 + 1 + 1 := by omega
      rw [e1]
      simpa [fcCells] using this
theorem fcCells_one (l : List Fct) : ∀ u ∈ fcCells l, u.oneCell' = true := by
  intro u hu
  unfold fcCells at hu
  rw [List.mem_flatMap] at hu
  obtain ⟨f, _, hf⟩ := hu
  simp at hf
  rcases hf with rfl | rfl | rfl | rfl | rfl <;> rfl
/-- The cells of a table that lies in memory. -/
theorem FactsAt.news {w : World} {b off : Nat} {l : List Fct} (hc : ∀ i, i < l.length → FctAt w b (off + i * 5) (fAt l i)) : ∀ j u, (fcCells l)[j]? = some u → w.cell? ((⟨b, off, none⟩ : Addr).add j) = some u := by
  intro j u hj
  have hadd : (⟨b, off, none⟩ : Addr).add j = ⟨b, off + j, none⟩ := by unfold Addr.add; split <;> simp_all
  have hlt : j < l.length * 5 := by
    rw [← fcCells_len]
    exact (List.getElem?_eq_some_iff.1 hj).1
  have hi : j / 5 < l.length := by omega
  obtain ⟨e0, e1, e2, e3, e4⟩ := fcCells_at l (j / 5) hi
  obtain ⟨c0, c1, c2, c3, c4⟩ := hc (j / 5) hi
  rw [hadd]
  have hr : j % 5 < 5 := Nat.mod_lt _ (by decide)
  have hj5 : j = j / 5 * 5 + j % 5 := by omega
  generalize j / 5 = q at *
  generalize j % 5 = r at *
  subst hj5
  match r, hr with
  | 0, _ => rw [Nat.add_zero] at hj; rw [e0] at hj; cases hj; exact c0
  | 1, _ => rw [e1] at hj; cases hj; rw [← Nat.add_assoc]; exact c1
  | 2, _ => rw [e2] at hj; cases hj; rw [← Nat.add_assoc]; exact c2
  | 3, _ => rw [e3] at hj; cases hj; rw [← Nat.add_assoc]; exact c3
  | 4, _ => rw [e4] at hj; cases hj; rw [← Nat.add_assoc]; exact c4
def OwnF (w : World) (base : Nat) (v : Value) (l : List Fct) : Prop := w.ownsRow base 24 5 v l.length (fcCells l)
theorem OwnF.sl {w : World} {base : Nat} {v : Value} {l : List Fct} (h : OwnF w base v l) : ∃ A c, v = .slice A l.length c ∧ l.length ≤ c := by
  rcases h.2 with ⟨hv, hn⟩ | ⟨g, c, cur, hv, _, _, hnc, _⟩
  · exact ⟨none, 0, by rw [hv, hn], by omega⟩
  · exact ⟨_, _, hv, hnc⟩
theorem OwnF.at_ {w : World} {base : Nat} {A : Option Addr} {c : Nat} {l : List Fct} (h : OwnF w base (.slice A l.length c) l) (hl : l.length ≤ 140737488355328) : FactsAt w A l := by
  refine ⟨hl, ?_⟩
  have h2 := h.2
  rcases h2 with ⟨_, hn⟩ | ⟨g, cap, cur, hv, _⟩
  · exact .inl (List.eq_nil_of_length_eq_zero hn)
  · simp only [Value.slice.injEq] at hv
    obtain ⟨rfl, _, rfl⟩ := hv
    refine .inr ⟨g, 0, rfl, fun i hi => ?_⟩
    obtain ⟨h0, h1, h2, h3, h4⟩ := fcCells_at l i hi
    unfold OwnF at h
    rw [Nat.zero_add]
    refine ⟨?_, ?_, ?_, ?_, ?_⟩
    all_goals rw [h.cellAt _ (by omega)]; assumption
theorem OwnF.nil (w : World) (base : Nat) : OwnF w base (.slice none 0 0) [] := ⟨rfl, .inl ⟨rfl, rfl⟩⟩
/-- Facts and an error. -/
def FactsR (w : World) (x : List Fct × Int) (en : Ending) (w' : World) : Prop := Below w.heap.size w w' ∧ ∃ A c, en = .returned (.tuple #[.slice A x.1.length c, .int .i64 x.2]) ∧ x.1.length ≤ c ∧ FactsAt w' A x.1
theorem factsNil (w : World) : FactsAt w none [] := ⟨by simp, .inl rfl⟩
def histL (l : List Fct) (c d : Int) : List Fct × Int := if askE l c d = 0 then (histTo l c d l.length, 0) else ([], askE l c d)
def untilL (l : List Fct) (at_ : Int) : List Fct × Int := if validE l = 0 then (l.take (cutL at_ l), 0) else ([], validE l)

end Go.Proofs.Ytkepjoociidkcaa
