/- Books that came in. -/
import Derived.Test.YtdgleicpcjfnoaaOpenI
import Derived.Test.YtdgleicpcjfnoaaBook
import Derived.Deep.SlicePairs
set_option linter.unusedVariables false
namespace Go.Proofs.Ytdgleicpcjfnoaa
open Go.ChangeShapes Go.WideShapes Go.ChangeAt Go.RowKit Go.Joins Go.Deep

theorem list_of {α : Type} (d : α) (n : Nat) (Pr : Nat → α → Prop) (h : ∀ i, i < n → ∃ x, Pr i x) : ∃ l : List α, l.length = n ∧ ∀ i, i < n → Pr i (l[i]?.getD d) := by
  induction n with
  | zero => exact ⟨[], rfl, fun i hi => by omega⟩
  | succ n ih =>
    obtain ⟨l, h1, h2⟩ := ih (fun i hi => h i (by omega))
    obtain ⟨x, hx⟩ := h n (by omega)
    refine ⟨l ++ [x], by simp [h1], fun i hi => ?_⟩
    rcases Nat.lt_or_ge i n with hh | hh
    · rw [List.getElem?_append_left (by omega)]; exact h2 i hh
    · obtain rfl : i = n := by omega
      rw [List.getElem?_append_right (by omega), h1]
      simpa using hx
theorem addB_none (b off i : Nat) : (⟨b, off, none⟩ : Addr).add i = ⟨b, off + i, none⟩ := by
  unfold Addr.add; split
  · simp_all
  · rfl

/-- A slice that may be too long to be read. -/
def SetRaw (w : World) (A : Option Addr) (xs : List Int) : Prop := xs.length ≤ 9223372036854775807 ∧ (xs.length ≤ 140737488355328 → Ints w A xs)
def ItemsRaw (w : World) (a : Option Addr) (its : List ItemL) : Prop := its.length ≤ 140737488355328 → its = [] ∨ ∃ b off, a = some ⟨b, off, none⟩ ∧ ∀ i, i < its.length → ∃ A c B d,
  w.cell? ⟨b, off + i * 2, none⟩ = some (.slice A (its[i]?.getD ([], [])).1.length c) ∧ w.cell? ⟨b, off + i * 2 + 1, none⟩ = some (.slice B (its[i]?.getD ([], [])).2.length d) ∧
    SetRaw w A (its[i]?.getD ([], [])).1 ∧ SetRaw w B (its[i]?.getD ([], [])).2
def RulesRaw (w : World) (a : Option Addr) (rls : List RuleL) : Prop := rls.length ≤ 140737488355328 → rls = [] ∨ ∃ b off, a = some ⟨b, off, none⟩ ∧ ∀ i, i < rls.length → ∃ A c,
  w.cell? ⟨b, off + i * 2, none⟩ = some (.slice A (rls[i]?.getD ([], 0)).1.length c) ∧ w.cell? ⟨b, off + i * 2 + 1, none⟩ = some (.int .i64 (rls[i]?.getD ([], 0)).2) ∧
    SetRaw w A (rls[i]?.getD ([], 0)).1 ∧ (-9223372036854775808 ≤ (rls[i]?.getD ([], 0)).2 ∧ (rls[i]?.getD ([], 0)).2 ≤ 9223372036854775807)

theorem cells_item : Try.prog.cellsOf 76 = 2 := by kernel_rfl
theorem cells_rule : Try.prog.cellsOf 55 = 2 := by kernel_rfl
theorem cells_ints : Try.prog.cellsOf 32 = 1 := by kernel_rfl
theorem cells_int1 : Try.prog.cellsOf 3 = 1 := by kernel_rfl

set_option maxRecDepth 100000 in
theorem open_items_at {H : Type} {enc : TypeId × Value → H} {W : World} {n : Nat} {v : Value} {y : DataW H × List MemPlace}
    (h : DataW.trod enc Try.prog W 0 (fun _ => true) true n 22 [v] = some y) :
    ∃ (a : Option Addr) (its : List ItemL) (cap : Nat), v = .slice a its.length cap ∧ its.length ≤ 9223372036854775807 ∧ ItemsRaw W a its := by
  rcases open_slice_pairs Try.underlying22 Try.underlying76 cells_item rfl rfl cells_ints cells_ints h with ⟨hc, _⟩ | ⟨a, len, cap, m, k, V0, V1, D0, D1, P0, P1, hc, _, hl, hm, hmm, _, hall⟩
  · simp at hc
    exact ⟨none, [], 0, hc, by simp, fun _ => .inl rfl⟩
  · simp at hc hmm
    unfold maxLen at hm
    obtain ⟨its, h1, h2⟩ := list_of (([], []) : ItemL) len (fun i x => ∃ A c B d, W.cell? (a.add (i * 2)) = some (.slice A x.1.length c) ∧ W.cell? (a.add (i * 2 + 1)) = some (.slice B x.2.length d) ∧ SetRaw W A x.1 ∧ SetRaw W B x.2) (by
      intro i hi
      obtain ⟨c0, c1, t0, t1⟩ := hall i (by omega)
      obtain ⟨A, xs, c, e0, l0, g0⟩ := open_ints_at t0
      obtain ⟨B, ys, d, e1, l1, g1⟩ := open_ints_at t1
      exact ⟨(xs, ys), A, c, B, d, by rw [c0, e0], by rw [c1, e1], ⟨l0, g0⟩, ⟨l1, g1⟩⟩)
    refine ⟨some a, its, cap, by rw [h1, hc], by omega, fun hb => ?_⟩
    by_cases h0 : len = 0
    · left; exact List.eq_nil_of_length_eq_zero (by omega)
    · right
      obtain ⟨b, off, spot⟩ := a
      obtain ⟨_, _, _, _, hc0, _⟩ := h2 0 (by omega)
      have hspot : spot = none := by simpa [Addr.add] using World.cell?_spot hc0
      subst hspot
      refine ⟨b, off, rfl, fun i hi => ?_⟩
      have := h2 i (by omega)
      simp only [addB_none, ← Nat.add_assoc] at this
      exact this

set_option maxRecDepth 100000 in
theorem open_rules_at {H : Type} {enc : TypeId × Value → H} {W : World} {n : Nat} {v : Value} {y : DataW H × List MemPlace}
    (h : DataW.trod enc Try.prog W 0 (fun _ => true) true n 23 [v] = some y) :
    ∃ (a : Option Addr) (rls : List RuleL) (cap : Nat), v = .slice a rls.length cap ∧ rls.length ≤ 9223372036854775807 ∧ RulesRaw W a rls := by
  rcases open_slice_pairs Try.underlying23 Try.underlying55 cells_rule rfl rfl cells_ints cells_int1 h with ⟨hc, _⟩ | ⟨a, len, cap, m, k, V0, V1, D0, D1, P0, P1, hc, _, hl, hm, hmm, _, hall⟩
  · simp at hc
    exact ⟨none, [], 0, hc, by simp, fun _ => .inl rfl⟩
  · simp at hc hmm
    unfold maxLen at hm
    obtain ⟨rls, h1, h2⟩ := list_of (([], 0) : RuleL) len (fun i x => ∃ A c, W.cell? (a.add (i * 2)) = some (.slice A x.1.length c) ∧ W.cell? (a.add (i * 2 + 1)) = some (.int .i64 x.2) ∧ SetRaw W A x.1 ∧ (-9223372036854775808 ≤ x.2 ∧ x.2 ≤ 9223372036854775807)) (by
      intro i hi
      obtain ⟨c0, c1, t0, t1⟩ := hall i (by omega)
      obtain ⟨A, xs, c, e0, l0, g0⟩ := open_ints_at t0
      obtain ⟨y, e1, _, wy⟩ := DataW.trod_int Try.underlying3 t1
      simp at e1
      exact ⟨(xs, y), A, c, by rw [c0, e0], by rw [c1, e1], ⟨l0, g0⟩, wf_i64 wy⟩)
    refine ⟨some a, rls, cap, by rw [h1, hc], by omega, fun hb => ?_⟩
    by_cases h0 : len = 0
    · left; exact List.eq_nil_of_length_eq_zero (by omega)
    · right
      obtain ⟨b, off, spot⟩ := a
      obtain ⟨_, _, hc0, _⟩ := h2 0 (by omega)
      have hspot : spot = none := by simpa [Addr.add] using World.cell?_spot hc0
      subst hspot
      refine ⟨b, off, rfl, fun i hi => ?_⟩
      have := h2 i (by omega)
      simp only [addB_none, ← Nat.add_assoc] at this
      exact this

set_option maxRecDepth 100000 in
theorem open_book {H : Type} {enc : TypeId × Value → H} {W : World} {r : Reach} {b0 : Nat} {v : Value} {d : DataW H} {p : List MemPlace} (hv : Value.okWide Try.prog W r b0 25 v)
    (h : DataW.Trod enc Try.prog W 0 (fun _ => true) true 25 v d p) :
    ∃ (P : Int) (ia : Option Addr) (its : List ItemL) (ic : Nat) (ra : Option Addr) (rls : List RuleL) (rc : Nat), v = .agg #[.int .i64 P, .slice ia its.length ic, .slice ra rls.length rc] ∧ (-9223372036854775808 ≤ P ∧ P ≤ 9223372036854775807) ∧
      its.length ≤ 9223372036854775807 ∧ rls.length ≤ 9223372036854775807 ∧ ItemsRaw W ia its ∧ RulesRaw W ra rls := by
  obtain ⟨c0, c1, c2, y0, y1, y2, m, rfl, _, _, hy0, hy1, hy2⟩ := open_agg3 Try.underlying25 (by kernel_rfl) (by kernel_rfl) hv h
  obtain ⟨x, e0, _, wx⟩ := DataW.trod_int Try.underlying3 hy0
  simp at e0
  subst e0
  obtain ⟨a1, its, cap1, rfl, l1, k1⟩ := open_items_at hy1
  obtain ⟨a2, rls, cap2, rfl, l2, k2⟩ := open_rules_at hy2
  exact ⟨x, a1, its, cap1, a2, rls, cap2, rfl, wf_i64 wx, l1, l2, k1, k2⟩

end Go.Proofs.Ytdgleicpcjfnoaa
