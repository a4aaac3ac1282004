/- A beginning of a game, in memory of the call's own. -/
import Derived.Test.YtfjncmhbpfcdiaaGuOpen
import Derived.Test.YtfjncmhbpfcdiaaRowsI
import Derived.Test.YtfjncmhbpfcdiaaAppend
set_option linter.unusedVariables false
namespace Go.Proofs.Ytfjncmhbpfcdiaa
open Go.RowKit

theorem round_info : (Try.prog.info? 47).map (fun i => (i.zero, i.size, i.bytes)) = some (some (.agg #[.slice none 0 0, .bool false]), 2, 32) := by kernel_rfl
/-- The cells of a row of memory, as they are. -/
def cellsOf (w : World) (b off n : Nat) : List Value := (List.range n).map fun j => (w.cell? ⟨b, off + j, none⟩).getD (.bool false)
theorem cellsOf_len (w : World) (b off n : Nat) : (cellsOf w b off n).length = n := by simp [cellsOf]
theorem cellsOf_at (w : World) (b off n j : Nat) (h : j < n) {u : Value} (hu : w.cell? ⟨b, off + j, none⟩ = some u) : (cellsOf w b off n)[j]? = some u := by
  unfold cellsOf
  rw [List.getElem?_map, List.getElem?_range h]
  simp [hu]
/-- What a game's cells are, and that they can be copied. -/
theorem game_cells {w : World} {b off : Nat} {g : List Rnd} (hc : ∀ i, i < g.length → ∃ A c, w.cell? ⟨b, off + i * 2, none⟩ = some (.slice A (rAt g i).1.length c) ∧ w.cell? ⟨b, off + i * 2 + 1, none⟩ = some (.bool (rAt g i).2) ∧ Marks w A (rAt g i).1) (j : Nat) (hj : j < g.length * 2) : ∃ u, w.cell? ⟨b, off + j, none⟩ = some u ∧ u.oneCell' = true := by
  obtain ⟨A, c, h1, h2, _⟩ := hc (j / 2) (by omega)
  rcases Nat.mod_two_eq_zero_or_one j with h | h
  · rw [show off + j = off + j / 2 * 2 by omega]; exact ⟨_, h1, rfl⟩
  · rw [show off + j = off + j / 2 * 2 + 1 by omega]; exact ⟨_, h2, rfl⟩
/-- What append makes of an empty row and a beginning of a game. -/
theorem game_copied {w w' : World} {a : Option Addr} {g : List Rnd} (h : GameAt w a g) (k : Nat) (hk : k ≤ g.length) {b off : Nat} (ha : a = some ⟨b, off, none⟩) (hc : ∀ i, i < g.length → ∃ A c, w.cell? ⟨b, off + i * 2, none⟩ = some (.slice A (rAt g i).1.length c) ∧ w.cell? ⟨b, off + i * 2 + 1, none⟩ = some (.bool (rAt g i).2) ∧ Marks w A (rAt g i).1)
  {base : Nat} {v : Value} (hown : w'.ownsRow base 47 2 v k (cellsOf w b off (k * 2))) (hb : Below w.heap.size w w') : ∃ R rc, v = .slice R k rc ∧ k ≤ rc ∧ GameAt w' R (g.take k) := by
  have hlk : (g.take k).length = k := by simp; omega
  have hlen := h.len
  rcases hown.2 with ⟨rfl, h0⟩ | ⟨q, cap, cur, rfl, hq, hh, hcp, hm, hs, ht⟩
  · subst h0
    exact ⟨none, 0, rfl, Nat.le_refl _, by rw [hlk]; omega, .inl (by simp)⟩
  · refine ⟨_, _, rfl, by omega, by rw [hlk]; omega, .inr ⟨q, 0, rfl, fun i hi => ?_⟩⟩
    rw [hlk] at hi
    rw [rAt_take g k i hi]
    obtain ⟨A, c, h1, h2, h3⟩ := hc i (by omega)
    have e1 := hown.cellAt (i * 2) (by omega)
    have e2 := hown.cellAt (i * 2 + 1) (by omega)
    rw [cellsOf_at w b off (k * 2) (i * 2) (by omega) (by rw [show off + i * 2 = off + i * 2 from rfl]; exact h1)] at e1
    rw [cellsOf_at w b off (k * 2) (i * 2 + 1) (by omega) (by rw [← Nat.add_assoc]; exact h2)] at e2
    exact ⟨A, c, by rw [Nat.zero_add]; exact e1, by rw [Nat.zero_add]; exact e2, h3.below hb⟩
theorem news_game {w : World} {b off : Nat} (k : Nat) (hc : ∀ j, j < k * 2 → ∃ u, w.cell? ⟨b, off + j, none⟩ = some u ∧ u.oneCell' = true) {W : World} (hW : ∀ j, j < k * 2 → W.cell? ⟨b, off + j, none⟩ = w.cell? ⟨b, off + j, none⟩) : k = 0 ∨ ∃ ad : Addr, (some ⟨b, off, none⟩ : Option Addr) = some ad ∧ ∀ j u, (cellsOf w b off (k * 2))[j]? = some u → W.cell? (ad.add j) = some u := by
  refine .inr ⟨_, rfl, fun j u hu => ?_⟩
  have hj : j < k * 2 := by
    have := (List.getElem?_eq_some_iff.1 hu).1
    rw [cellsOf_len] at this; exact this
  obtain ⟨u', h1, _⟩ := hc j hj
  rw [cellsOf_at w b off (k * 2) j hj h1] at hu
  cases hu
  rw [addG_none, hW j hj]; exact h1
theorem ones_game {w : World} {b off : Nat} (k : Nat) (hc : ∀ j, j < k * 2 → ∃ u, w.cell? ⟨b, off + j, none⟩ = some u ∧ u.oneCell' = true) : ∀ u ∈ cellsOf w b off (k * 2), u.oneCell' = true := by
  intro u hu
  obtain ⟨j, hj, rfl⟩ := List.getElem_of_mem hu
  rw [cellsOf_len] at hj
  obtain ⟨u', h1, h2⟩ := hc j hj
  have := cellsOf_at w b off (k * 2) j hj h1
  rw [List.getElem?_eq_getElem (by rw [cellsOf_len]; exact hj)] at this
  cases this; exact h2
end Go.Proofs.Ytfjncmhbpfcdiaa
