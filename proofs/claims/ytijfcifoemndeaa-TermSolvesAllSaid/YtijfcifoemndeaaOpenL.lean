/- A slice of lines that came in. -/
import Derived.Test.YtijfcifoemndeaaOpen
import Derived.Test.YtijfcifoemndeaaSolve
import Derived.Deep.SlicePairs
set_option linter.unusedVariables false
namespace Go.Proofs.Ytijfcifoemndeaa
open Go.ChangeShapes Go.WideShapes Go.ChangeAt Go.RowKit Go.Joins Go.Deep

theorem add_none (b off i : Nat) : (⟨b, off, none⟩ : Addr).add i = ⟨b, off + i, none⟩ := by
  unfold Addr.add; split
  · simp_all
  · rfl

theorem cells_line : Try.prog.cellsOf 64 = 2 := by kernel_rfl
theorem cells_int : Try.prog.cellsOf 3 = 1 := by kernel_rfl

set_option maxRecDepth 100000 in
theorem open_lines {H : Type} {enc : TypeId × Value → H} {W : World} {r : Reach} {b0 : Nat} {v : Value} {d : DataW H} {p : List MemPlace} (hv : Value.okWide Try.prog W r b0 59 v)
    (h : DataW.Trod enc Try.prog W 0 (fun _ => true) true 59 v d p) :
    ∃ (a : Option Addr) (ls : List (Int × Int)) (cap : Nat), v = .slice a ls.length cap ∧ ls.length ≤ 9223372036854775807 ∧ (ls.length ≤ 140737488355328 → Lines W a ls) := by
  obtain ⟨a0, len0, cap0, rfl⟩ := okWide_slice Try.underlying59 hv
  obtain ⟨fuel, hf⟩ := h
  simp only [Value.cells] at hf
  rcases open_slice_pairs Try.underlying59 Try.underlying64 cells_line rfl rfl cells_int cells_int hf with ⟨hc, _⟩ | ⟨a, len, cap, m, k, V0, V1, D0, D1, P0, P1, hc, _, hl, hm, hmm, _, hall⟩
  · simp at hc
    obtain ⟨rfl, rfl, rfl⟩ := hc
    exact ⟨none, [], 0, rfl, by simp, fun _ => ⟨by simp, .inl rfl, by simp⟩⟩
  · simp at hc hmm
    obtain ⟨rfl, rfl, rfl⟩ := hc
    unfold maxLen at hm
    have each : ∀ i, i < len0 → ∃ x y : Int, W.cell? (a.add (i * 2)) = some (.int .i64 x) ∧ W.cell? (a.add (i * 2 + 1)) = some (.int .i64 y) ∧ (-9223372036854775808 ≤ x ∧ x ≤ 9223372036854775807) ∧ -9223372036854775808 ≤ y ∧ y ≤ 9223372036854775807 := by
      intro i hi
      obtain ⟨c0, c1, t0, t1⟩ := hall i (by omega)
      obtain ⟨x, e0, _, wx⟩ := DataW.trod_int Try.underlying3 t0
      obtain ⟨y, e1, _, wy⟩ := DataW.trod_int Try.underlying3 t1
      simp at e0 e1
      exact ⟨x, y, by rw [c0, e0], by rw [c1, e1], wf_i64 wx, wf_i64 wy⟩
    have key : ∀ n, n ≤ len0 → ∃ ls : List (Int × Int), ls.length = n ∧ (∀ i, i < n → W.cell? (a.add (i * 2)) = some (.int .i64 (ls[i]?.getD (0, 0)).1) ∧ W.cell? (a.add (i * 2 + 1)) = some (.int .i64 (ls[i]?.getD (0, 0)).2)) ∧
        ∀ x ∈ ls, (-9223372036854775808 ≤ x.1 ∧ x.1 ≤ 9223372036854775807) ∧ -9223372036854775808 ≤ x.2 ∧ x.2 ≤ 9223372036854775807 := by
      intro n
      induction n with
      | zero => exact fun _ => ⟨[], rfl, fun i hi => by omega, by simp⟩
      | succ n ih =>
        intro hn
        obtain ⟨ls, h1, h2, h3⟩ := ih (by omega)
        obtain ⟨x, y, e0, e1, b0, b1⟩ := each n (by omega)
        refine ⟨ls ++ [(x, y)], by simp [h1], fun i hi => ?_, fun z hz => ?_⟩
        · rcases Nat.lt_or_ge i n with hh | hh
          · rw [List.getElem?_append_left (by omega)]; exact h2 i hh
          · obtain rfl : i = n := by omega
            rw [List.getElem?_append_right (by omega), h1]
            simpa using ⟨e0, e1⟩
        · rcases List.mem_append.1 hz with hz | hz
          · exact h3 z hz
          · simp at hz; subst hz; exact ⟨b0, b1⟩
    obtain ⟨ls, h1, h2, h3⟩ := key len0 (Nat.le_refl _)
    refine ⟨some a, ls, cap0, by rw [h1], by omega, fun hb => ⟨hb, ?_, h3⟩⟩
    by_cases h0 : len0 = 0
    · left; exact List.eq_nil_of_length_eq_zero (by omega)
    · right
      obtain ⟨b, off, spot⟩ := a
      have hc := (h2 0 (by omega)).1
      have hspot : spot = none := by simpa [Addr.add] using World.cell?_spot hc
      subst hspot
      refine ⟨b, off, rfl, fun i hi => ?_⟩
      have := h2 i (by omega)
      rwa [add_none, add_none, ← Nat.add_assoc] at this

end Go.Proofs.Ytijfcifoemndeaa
