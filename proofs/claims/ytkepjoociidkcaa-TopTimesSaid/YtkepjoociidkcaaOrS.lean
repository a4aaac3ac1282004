/- Spans in memory. -/
import Derived.Test.YtkepjoociidkcaaOrF
import Derived.Test.YtkepjoociidkcaaRowsI
import Derived.Deep.AppendLies
set_option linter.unusedVariables false
namespace Go.Proofs.Ytkepjoociidkcaa
open Go.RowKit

theorem sp_info : (Try.prog.info? 66).map (fun i => (i.zero, i.size, i.bytes)) = some (some (.agg #[.int .i64 0, .int .i64 0, .int .i64 0]), 3, 24) := by kernel_rfl
def spCells (s : List Spn) : List Value := s.flatMap (fun x => [Value.int .i64 x.f, Value.int .i64 x.t, Value.int .i64 x.m])
theorem spCells_len (s : List Spn) : (spCells s).length = s.length * 3 := by
  induction s with
  | nil => rfl
  | cons x t ih => simp [spCells] at ih ⊢; omega
theorem spCells_snoc (s : List Spn) (x : Spn) : spCells (s ++ [x]) = spCells s ++ [.int .i64 x.f, .int .i64 x.t, .int .i64 x.m] := by simp [spCells]
theorem spCells_at (s : List Spn) (i : Nat) (h : i < s.length) : (spCells s)[i * 3]? = some (.int .i64 (sAt s i).f) ∧ (spCells s)[i * 3 + 1]? = some (.int .i64 (sAt s i).t) ∧ (spCells s)[i * 3 + 2]? = some (.int .i64 (sAt s i).m) := by
  unfold sAt
  induction s generalizing i with
  | nil => simp at h
  | cons x t ih =>
    cases i with
    | zero => simp [spCells]
    | succ i =>
      have := ih i (by simpa using h)
      have e1 : (i + 1) * 3 = i * 3 + 1 + 1 + 1 := by omega
      rw [e1]
      simpa [spCells] using this
theorem spCells_set (s : List Spn) (i : Nat) (h : i < s.length) (y : Int) : (spCells s).set (i * 3 + 1) (.int .i64 y) = spCells (s.set i ⟨(sAt s i).f, y, (sAt s i).m⟩) := by
  unfold sAt
  induction s generalizing i with
  | nil => simp at h
  | cons x t ih =>
    cases i with
    | zero => simp [spCells]
    | succ i =>
      have := ih i (by simpa using h)
      have e1 : (i + 1) * 3 + 1 = i * 3 + 1 + 1 + 1 + 1 := by omega
      rw [e1]
      simpa [spCells] using this
/-- A slice of spans that reads as a list. -/
structure SpnsAt (w : World) (a : Option Addr) (s : List Spn) : Prop where
  len : s.length ≤ 140737488355328
  at_ : s = [] ∨ ∃ b off, a = some ⟨b, off, none⟩ ∧ ∀ i, i < s.length → w.cell? ⟨b, off + i * 3, none⟩ = some (.int .i64 (sAt s i).f) ∧ w.cell? ⟨b, off + i * 3 + 1, none⟩ = some (.int .i64 (sAt s i).t) ∧ w.cell? ⟨b, off + i * 3 + 2, none⟩ = some (.int .i64 (sAt s i).m)
theorem SpnsAt.below {w w' : World} {a : Option Addr} {s : List Spn} (h : SpnsAt w a s) (hb : Below w.heap.size w w') : SpnsAt w' a s := by
  refine ⟨h.len, ?_⟩
  rcases h.at_ with e | ⟨b, off, ha, hc⟩
  · exact .inl e
  · exact .inr ⟨b, off, ha, fun i hi => by
      obtain ⟨h1, h2, h3⟩ := hc i hi
      exact ⟨by rw [hb.cell (cell_lt h1)]; exact h1, by rw [hb.cell (cell_lt h2)]; exact h2, by rw [hb.cell (cell_lt h3)]; exact h3⟩⟩
def OwnSp (w : World) (base : Nat) (v : Value) (n : Nat) (s : List Spn) : Prop := s.length = n ∧ w.ownsRow base 66 3 v n (spCells s)
theorem OwnSp.sl {w : World} {base : Nat} {v : Value} {n : Nat} {s : List Spn} (h : OwnSp w base v n s) : ∃ A c, v = .slice A n c := by
  rcases h.2.2 with ⟨hv, hn⟩ | ⟨g, c, cur, hv, _⟩
  · exact ⟨none, 0, by rw [hv, hn]⟩
  · exact ⟨_, _, hv⟩
theorem OwnSp.place {w : World} {base : Nat} {A : Option Addr} {c n : Nat} {s : List Spn} (h : OwnSp w base (.slice A n c) n s) (hn : 0 < n) : ∃ g, A = some ⟨g, 0, none⟩ ∧ base ≤ g ∧ g < w.heap.size := by
  rcases h.2.2 with ⟨_, h0⟩ | ⟨g, cap, cur, hv, hg, hh, _⟩
  · omega
  · simp only [Value.slice.injEq] at hv
    obtain ⟨rfl, _, rfl⟩ := hv
    exact ⟨g, rfl, hg, (Array.getElem?_eq_some_iff.1 hh).1⟩
theorem OwnSp.cells {w : World} {base g c n : Nat} {s : List Spn} (h : OwnSp w base (.slice (some ⟨g, 0, none⟩) n c) n s) (i : Nat) (hi : i < n) :
    w.cell? ⟨g, i * 3, none⟩ = some (.int .i64 (sAt s i).f) ∧ w.cell? ⟨g, i * 3 + 1, none⟩ = some (.int .i64 (sAt s i).t) ∧ w.cell? ⟨g, i * 3 + 2, none⟩ = some (.int .i64 (sAt s i).m) := by
  obtain ⟨h1, h2⟩ := h
  obtain ⟨c0, c1, c2⟩ := spCells_at s i (by omega)
  rw [h2.cellAt _ (by omega), h2.cellAt _ (by omega), h2.cellAt _ (by omega)]
  exact ⟨c0, c1, c2⟩
theorem OwnSp.at_ {w : World} {base : Nat} {A : Option Addr} {c n : Nat} {s : List Spn} (h : OwnSp w base (.slice A n c) n s) (hl : n ≤ 140737488355328) : SpnsAt w A s := by
  refine ⟨by have := h.1; omega, ?_⟩
  by_cases h0 : n = 0
  · exact .inl (List.eq_nil_of_length_eq_zero (by have := h.1; omega))
  · obtain ⟨g, rfl, _, _⟩ := h.place (by omega)
    refine .inr ⟨g, 0, rfl, fun i hi => ?_⟩
    rw [Nat.zero_add]
    exact h.cells i (by have := h.1; omega)
def SpnsR (w : World) (s : List Spn) (en : Ending) (w' : World) : Prop := Below w.heap.size w w' ∧ ∃ A c, en = .returned (.slice A s.length c) ∧ SpnsAt w' A s
/-- The same, of memory of the call's own. -/
def SpnsO (w : World) (s : List Spn) (en : Ending) (w' : World) : Prop := Below w.heap.size w w' ∧ ∃ A c, en = .returned (.slice A s.length c) ∧ SpnsAt w' A s ∧ ∀ ad, A = some ad → w.heap.size ≤ ad.block
theorem SpnsO.r {w : World} {s : List Spn} {en : Ending} {w' : World} (h : SpnsO w s en w') : SpnsR w s en w' := by
  obtain ⟨h1, A, c, h2, h3, _⟩ := h
  exact ⟨h1, A, c, h2, h3⟩
theorem own_new {w : World} {base : Nat} {e : TypeId} {s : Nat} {A : Option Addr} {n c : Nat} {xs : List Value} (h : w.ownsRow base e s (.slice A n c) n xs) : ∀ ad, A = some ad → base ≤ ad.block := by
  intro ad had
  have h2 := h.2
  rcases h2 with ⟨hv, _⟩ | ⟨g, cap, cur, hv, hg, _⟩
  · simp only [Value.slice.injEq] at hv
    rw [hv.1] at had; cases had
  · simp only [Value.slice.injEq] at hv
    rw [hv.1] at had
    cases had
    exact hg
end Go.Proofs.Ytkepjoociidkcaa
