/- Batches copied into memory of the call's own, and one more behind them. -/
import Derived.Test.YteolckphafblmaaKiH
import Derived.Test.YteolckphafblmaaStepApp
import Derived.Test.YteolckphafblmaaAppend
import Derived.Deep.RegionHeld3
set_option linter.unusedVariables false
namespace Go.Proofs.Yteolckphafblmaa
open Go.RowKit

theorem batch_info : (Try.prog.info? 40).map (fun i => (i.zero, i.size, i.bytes)) = some (some (.agg #[.int .i64 0, .int .i64 0]), 2, 16) := by kernel_rfl
def btC (l : List Bt) : List Value := l.flatMap fun b => [.int .i64 b.1, .int .i64 b.2]
theorem btC_len (l : List Bt) : (btC l).length = l.length * 2 := by
  induction l with
  | nil => rfl
  | cons x t ih => simp [btC] at ih ⊢; omega
theorem btC_snoc (l : List Bt) (b : Bt) : btC (l ++ [b]) = btC l ++ [.int .i64 b.1, .int .i64 b.2] := by simp [btC]
theorem btC_at (l : List Bt) (i : Nat) (h : i < l.length) : (btC l)[i * 2]? = some (.int .i64 (btAt l i).1) ∧ (btC l)[i * 2 + 1]? = some (.int .i64 (btAt l i).2) := by
  unfold btAt
  induction l generalizing i with
  | nil => simp at h
  | cons x t ih =>
    cases i with
    | zero => simp [btC]
    | succ i =>
      have := ih i (by simpa using h)
      have e1 : (i + 1) * 2 = i * 2 + 1 + 1 := by omega
      rw [e1]
      simpa [btC] using this
theorem btC_one (l : List Bt) : ∀ u ∈ btC l, u.oneCell' = true := by
  intro u hu
  simp only [btC, List.mem_flatMap] at hu
  obtain ⟨b, _, hb⟩ := hu
  simp at hb
  rcases hb with rfl | rfl <;> rfl
/-- Batches of the call's own. -/
def OwnB (w : World) (base : Nat) (v : Value) (l : List Bt) : Prop := w.ownsRow base 40 2 v l.length (btC l)
theorem OwnB.below {w w' : World} {base : Nat} {v : Value} {l : List Bt} (h : OwnB w base v l) (hb : Below w.heap.size w w') : OwnB w' base v l := own_below h hb
theorem OwnB.nil (w : World) (base : Nat) : OwnB w base (.slice none 0 0) [] := ⟨rfl, .inl ⟨rfl, rfl⟩⟩
theorem OwnB.bts {w : World} {base : Nat} {v : Value} {l : List Bt} (h : OwnB w base v l) (hl : l.length ≤ 140737488355328) (hb : ∀ x ∈ l, (-9223372036854775808 ≤ x.1 ∧ x.1 ≤ 9223372036854775807) ∧ -9223372036854775808 ≤ x.2 ∧ x.2 ≤ 9223372036854775807) : ∃ A c, v = .slice A l.length c ∧ Bts w A l := by
  unfold OwnB at h
  rcases h.2 with ⟨rfl, h0⟩ | ⟨g, cap, cur, rfl, hg, hh, hc, hm, hs, ht⟩
  · exact ⟨none, 0, by rw [h0], ⟨hl, .inl (List.eq_nil_of_length_eq_zero h0), hb⟩⟩
  · refine ⟨_, _, rfl, ⟨hl, .inr ⟨g, 0, rfl, fun i hi => ?_⟩, hb⟩⟩
    obtain ⟨e1, e2⟩ := btC_at l i hi
    rw [Nat.zero_add, h.cellAt _ (by omega), h.cellAt _ (by omega)]
    exact ⟨e1, e2⟩
/-- What is read of batches, as the cells that append takes. -/
theorem bts_news {w : World} {a : Option Addr} {l : List Bt} (h : Bts w a l) : l.length = 0 ∨ ∃ ad : Addr, a = some ad ∧ ∀ j u, (btC l)[j]? = some u → w.cell? (ad.add j) = some u := by
  rcases h.at_ with rfl | ⟨b, off, rfl, hc⟩
  · exact .inl rfl
  · refine .inr ⟨_, rfl, fun j u hu => ?_⟩
    have hj : j < (btC l).length := (List.getElem?_eq_some_iff.1 hu).1
    rw [btC_len] at hj
    obtain ⟨c1, c2⟩ := hc (j / 2) (by omega)
    obtain ⟨e1, e2⟩ := btC_at l (j / 2) (by omega)
    have had : (⟨b, off, none⟩ : Addr).add j = ⟨b, off + j, none⟩ := by
      unfold Addr.add; split
      · simp_all
      · rfl
    rw [had]
    rcases Nat.mod_two_eq_zero_or_one j with hm | hm
    · have ej : j = j / 2 * 2 := by omega
      rw [ej] at hu ⊢
      rw [e1] at hu; cases hu
      exact c1
    · have ej : j = j / 2 * 2 + 1 := by omega
      rw [ej] at hu ⊢
      rw [e2] at hu; cases hu
      rw [← Nat.add_assoc]; exact c2
end Go.Proofs.Yteolckphafblmaa
