/- The arguments of the laws of chapter 6, opened; which games are long. -/
import Derived.Test.YtfjncmhbpfcdiaaOpenI
import Derived.Test.YtfjncmhbpfcdiaaGuB
import Derived.Test.YtfjncmhbpfcdiaaRes
import Derived.Deep.SlicePairs
set_option linter.unusedVariables false
namespace Go.Proofs.Ytfjncmhbpfcdiaa
open Go.ChangeShapes Go.WideShapes Go.ChangeAt Go.RowKit Go.Joins Go.Deep

/-- Marks that may be too many to be read. -/
def MarksRaw (w : World) (A : Option Addr) (l : List Bool) : Prop := l.length ≤ 9223372036854775807 ∧ (l.length ≤ 140737488355328 → Marks w A l)
def GameRaw (w : World) (a : Option Addr) (g : List Rnd) : Prop := g.length ≤ 9223372036854775807 ∧ (g = [] ∨ ∃ b off, a = some ⟨b, off, none⟩ ∧ ∀ i, i < g.length → ∃ A c, w.cell? ⟨b, off + i * 2, none⟩ = some (.slice A (rAt g i).1.length c) ∧ w.cell? ⟨b, off + i * 2 + 1, none⟩ = some (.bool (rAt g i).2) ∧ MarksRaw w A (rAt g i).1)
theorem pick_listG {α : Type} (d : α) (n : Nat) (Pr : Nat → α → Prop) (h : ∀ i, i < n → ∃ x, Pr i x) : ∃ l : List α, l.length = n ∧ ∀ i, i < n → Pr i (l[i]?.getD d) := by
  induction n with
  | zero => exact ⟨[], rfl, fun i hi => by omega⟩
  | succ n ih =>
    obtain ⟨l, h1, h2⟩ := ih (fun i hi => h i (by omega))
    obtain ⟨x, hx⟩ := h n (by omega)
    refine ⟨l ++ [x], by simp [h1], fun i hi => ?_⟩
    rcases Nat.lt_or_ge i n with hh | hh
    · rw [List.getElem?_append_left (by omega)]; exact h2 i hh
    · obtain rfl : i = n := by omega
      rw [List.getElem?_append_right (by omega), h1]
      simpa using hx
theorem addG_none (b off i : Nat) : (⟨b, off, none⟩ : Addr).add i = ⟨b, off + i, none⟩ := by
  unfold Addr.add; split
  · simp_all
  · rfl
theorem cells_boolG : Try.prog.cellsOf 4 = 1 := by kernel_rfl
theorem cells_boolsG : Try.prog.cellsOf 36 = 1 := by kernel_rfl
theorem cells_roundG : Try.prog.cellsOf 47 = 2 := by kernel_rfl
set_option maxRecDepth 100000 in
theorem open_bools_at {H : Type} {enc : TypeId × Value → H} {W : World} {fuel : Nat} {v : Value} {y : DataW H × List MemPlace}
    (hf : DataW.trod enc Try.prog W 0 (fun _ => true) true fuel 36 [v] = some y) :
    ∃ (a : Option Addr) (l : List Bool) (cap : Nat), v = .slice a l.length cap ∧ l.length ≤ cap ∧ MarksRaw W a l := by
  rcases open_slice Try.underlying36 hf with ⟨hc, _⟩ | ⟨a, len, cap, m, n, D, Pl, hc, _, hl, hm, hmm, _, hi⟩
  · simp at hc
    exact ⟨none, [], 0, hc, Nat.le_refl _, by simp, fun _ => ⟨by simp, .inl rfl⟩⟩
  · simp at hc hmm
    unfold maxLen at hm
    obtain ⟨l, h1, h2⟩ := pick_listG false len (fun i x => W.cell? (a.add i) = some (.bool x)) (fun i hil => by
      obtain ⟨cs', hcs, ht'⟩ := hi i (by omega)
      rw [cells_boolG] at hcs
      obtain ⟨_, hcl, hat⟩ := World.cells?_some hcs
      obtain ⟨x, rfl, _⟩ := DataW.trod_bool Try.underlying4 ht'
      have := hat 0 (by simp)
      refine ⟨x, ?_⟩
      rw [Go.Deep.add_add] at this
      simpa using this)
    refine ⟨some a, l, cap, by rw [h1, hc], by omega, by omega, fun hb => ⟨hb, ?_⟩⟩
    by_cases h0 : len = 0
    · left; exact List.eq_nil_of_length_eq_zero (by omega)
    · right
      obtain ⟨b, off, spot⟩ := a
      have hc0 := h2 0 (by omega)
      have hspot : spot = none := by simpa [Addr.add] using World.cell?_spot hc0
      subst hspot
      refine ⟨b, off, rfl, fun i hi => ?_⟩
      have := h2 i (by omega)
      rw [addG_none] at this
      exact this
set_option maxRecDepth 100000 in
theorem open_game {H : Type} {enc : TypeId × Value → H} {W : World} {r : Reach} {b0 : Nat} {v : Value} {d : DataW H} {p : List MemPlace} (hv : Value.okWide Try.prog W r b0 22 v)
    (h : DataW.Trod enc Try.prog W 0 (fun _ => true) true 22 v d p) :
    ∃ (a : Option Addr) (g : List Rnd) (cap : Nat), v = .slice a g.length cap ∧ g.length ≤ cap ∧ GameRaw W a g := by
  obtain ⟨a0, len0, cap0, rfl⟩ := okWide_slice Try.underlying22 hv
  obtain ⟨fuel, hf⟩ := h
  simp only [Value.cells] at hf
  rcases open_slice_pairs Try.underlying22 Try.underlying47 cells_roundG rfl rfl cells_boolsG cells_boolG hf with ⟨hc, _⟩ | ⟨a, len, cap, m, k, V0, V1, D0, D1, P0, P1, hc, _, hl, hm, hmm, _, hall⟩
  · simp at hc
    obtain ⟨rfl, rfl, rfl⟩ := hc
    exact ⟨none, [], 0, rfl, Nat.le_refl _, by simp, .inl rfl⟩
  · simp at hc hmm
    unfold maxLen at hm
    obtain ⟨g, h1, h2⟩ := pick_listG (([], false) : Rnd) len (fun i x => ∃ A c, W.cell? (a.add (i * 2)) = some (.slice A x.1.length c) ∧ W.cell? (a.add (i * 2 + 1)) = some (.bool x.2) ∧ MarksRaw W A x.1) (by
      intro i hi
      obtain ⟨c0, c1, t0, t1⟩ := hall i (by omega)
      obtain ⟨A, l, c, e0, _, m0⟩ := open_bools_at t0
      obtain ⟨x, e1, _⟩ := DataW.trod_bool Try.underlying4 t1
      simp at e1
      exact ⟨(l, x), A, c, by rw [c0, e0], by rw [c1, e1], m0⟩)
    obtain ⟨rfl, rfl, rfl⟩ := hc
    refine ⟨some a, g, cap0, by rw [h1], by omega, by omega, ?_⟩
    by_cases h0 : len0 = 0
    · left; exact List.eq_nil_of_length_eq_zero (by omega)
    · right
      obtain ⟨b, off, spot⟩ := a
      obtain ⟨_, _, hc0, _⟩ := h2 0 (by omega)
      have hspot : spot = none := by simpa [Addr.add] using World.cell?_spot hc0
      subst hspot
      refine ⟨b, off, rfl, fun i hi => ?_⟩
      have := h2 i (by omega)
      simp only [addG_none, ← Nat.add_assoc] at this
      exact this
set_option maxRecDepth 100000 in
theorem open_bools {H : Type} {enc : TypeId × Value → H} {W : World} {r : Reach} {b0 : Nat} {v : Value} {d : DataW H} {p : List MemPlace} (hv : Value.okWide Try.prog W r b0 36 v)
    (h : DataW.Trod enc Try.prog W 0 (fun _ => true) true 36 v d p) :
    ∃ (a : Option Addr) (l : List Bool) (cap : Nat), v = .slice a l.length cap ∧ l.length ≤ cap ∧ MarksRaw W a l := by
  obtain ⟨a0, len0, cap0, rfl⟩ := okWide_slice Try.underlying36 hv
  obtain ⟨fuel, hf⟩ := h
  simp only [Value.cells] at hf
  exact open_bools_at hf
set_option maxRecDepth 100000 in
theorem open_costs {H : Type} {enc : TypeId × Value → H} {W : World} {r : Reach} {b0 : Nat} {v : Value} {d : DataW H} {p : List MemPlace} (hv : Value.okWide Try.prog W r b0 55 v) (h : DataW.Trod enc Try.prog W 0 (fun _ => true) true 55 v d p) : ∃ (x y : Int), v = .agg #[.int .i64 x, .int .i64 y] ∧ (-9223372036854775808 ≤ x ∧ x ≤ 9223372036854775807) ∧ (-9223372036854775808 ≤ y ∧ y ≤ 9223372036854775807) := by
  obtain ⟨c0, c1, y0, y1, m, rfl, _, _, hy0, hy1⟩ := open_agg2 Try.underlying55 (by kernel_rfl) (by kernel_rfl) hv h
  obtain ⟨x, e0, _, wx⟩ := DataW.trod_int Try.underlying3 hy0
  obtain ⟨y, e1, _, wy⟩ := DataW.trod_int Try.underlying3 hy1
  simp at e0 e1
  subst e0 e1
  exact ⟨x, y, rfl, wf_i64 wx, wf_i64 wy⟩
theorem open_pair6 {H : Type} {enc : TypeId × Value → H} {W : World} {r : Reach} {b0 : Nat} {v : Value} {d : DataW H} {p : List MemPlace} (hv : Value.okWide Try.prog W r b0 52 v) (h : DataW.Trod enc Try.prog W 0 (fun _ => true) true 52 v d p) : ∃ (x y : Int), v = .agg #[.int .i64 x, .int .i64 y] ∧ (-9223372036854775808 ≤ x ∧ x ≤ 9223372036854775807) ∧ (-9223372036854775808 ≤ y ∧ y ≤ 9223372036854775807) := by
  obtain ⟨c0, c1, y0, y1, m, rfl, _, _, hy0, hy1⟩ := open_agg2 Try.underlying52 (by kernel_rfl) (by kernel_rfl) hv h
  obtain ⟨x, e0, _, wx⟩ := DataW.trod_int Try.underlying3 hy0
  obtain ⟨y, e1, _, wy⟩ := DataW.trod_int Try.underlying3 hy1
  simp at e0 e1
  subst e0 e1
  exact ⟨x, y, rfl, wf_i64 wx, wf_i64 wy⟩
end Go.Proofs.Ytfjncmhbpfcdiaa
