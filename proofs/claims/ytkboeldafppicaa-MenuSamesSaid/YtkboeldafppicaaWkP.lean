/- The memory of the document's walk through two machines. -/
import Derived.Test.YtkboeldafppicaaWkM
import Derived.Test.YtkboeldafppicaaRowsM
set_option linter.unusedVariables false
namespace Go.Proofs.Ytkboeldafppicaa
open Go.RowKit Go.Maps

def flatW (sts : List Two) (vals : List Value) : List Value := (sts.zip vals).flatMap (fun p => [.int .i64 p.1.1, .int .i64 p.1.2, p.2])
theorem flatW_snoc (sts : List Two) (vals : List Value) (h : vals.length = sts.length) (s : Two) (r : Value) : flatW (sts ++ [s]) (vals ++ [r]) = flatW sts vals ++ [.int .i64 s.1, .int .i64 s.2, r] := by
  unfold flatW
  rw [List.zip_append h.symm, List.flatMap_append]
  simp
theorem flatW_at (sts : List Two) (vals : List Value) (h : vals.length = sts.length) (i : Nat) (s : Two) (r : Value) (hs : sts[i]? = some s) (hr : vals[i]? = some r) : (flatW sts vals)[i * 3]? = some (.int .i64 s.1) ∧ (flatW sts vals)[i * 3 + 1]? = some (.int .i64 s.2) ∧ (flatW sts vals)[i * 3 + 2]? = some r := by
  induction sts generalizing vals i with
  | nil => simp at hs
  | cons x t ih =>
    cases vals with
    | nil => simp at h
    | cons v vs =>
      cases i with
      | zero => simp at hs hr; subst hs; subst hr; simp [flatW]
      | succ i =>
        have := ih vs (by simpa using h) i (by simpa using hs) (by simpa using hr)
        have e1 : (i + 1) * 3 = i * 3 + 3 := by omega
        rw [e1]
        simpa [flatW] using this
/-- The pairs, each with its word, in slices of the call's own. -/
structure OutW (w : World) (base : Nat) (v : Value) (sts : List Two) (wds : List (List Int)) : Prop where
  out : ∃ vals : List Value, w.ownsRow base 98 3 v sts.length (flatW sts vals) ∧ vals.length = sts.length ∧ ∀ i, i < sts.length → ∃ A c, vals[i]? = some (.slice A (tRM wds i).length c) ∧ Own w base (.slice A (tRM wds i).length c) (tRM wds i)
  len : wds.length = sts.length
section
variable {w w' : World} {base : Nat} {v : Value} {sts : List Two} {wds : List (List Int)}
theorem OutW.below (h : OutW w base v sts wds) (hb : Below w.heap.size w w') : OutW w' base v sts wds := by
  obtain ⟨vals, h1, h2, h3⟩ := h.out
  refine ⟨⟨vals, own_below h1 hb, h2, fun i hi => ?_⟩, h.len⟩
  obtain ⟨A, c, h4, h5⟩ := h3 i hi
  exact ⟨A, c, h4, h5.below hb⟩
theorem OutW.weak {b : Nat} (h : OutW w base v sts wds) (hb : b ≤ base) : OutW w b v sts wds := by
  obtain ⟨vals, h1, h2, h3⟩ := h.out
  refine ⟨⟨vals, own_weak h1 hb, h2, fun i hi => ?_⟩, h.len⟩
  obtain ⟨A, c, h4, h5⟩ := h3 i hi
  exact ⟨A, c, h4, own_weak h5 hb⟩
theorem OutW.lt (h : OutW w base v sts wds) : ∀ q, v.ownBlock = some q → base ≤ q ∧ q < w.heap.size := by
  obtain ⟨vals, h1, _⟩ := h.out
  exact fun q hq => h1.lt q hq
/-- The map, or what lies below, is written. -/
theorem OutW.grown (h : OutW w base v sts wds) {g : Nat} (hg : w.grownBy w' (some g)) (hlo : g < base) : OutW w' base v sts wds := by
  obtain ⟨vals, h1, h2, h3⟩ := h.out
  have keep : ∀ {e : TypeId} {s : Nat} {u : Value} {n : Nat} {xs : List Value}, w.ownsRow base e s u n xs → w'.ownsRow base e s u n xs := fun hx => kept_or hx hg (fun q hq e2 => by
    have := (hx.lt q e2).1
    have := Option.some.inj hq
    omega)
  refine ⟨⟨vals, keep h1, h2, fun i hi => ?_⟩, h.len⟩
  obtain ⟨A, c, h4, h5⟩ := h3 i hi
  exact ⟨A, c, h4, keep h5⟩
/-- A box of a pair is written that is none of the list's cells. -/
theorem OutW.box (h : OutW w base v sts wds) {g o : Nat} {cs : Array Value} {fr : Nat × Nat} (hk : w.heap[g]? = some (.cells cs 98 fr)) (hn : v.ownBlock ≠ some g) (u : Value) : OutW (w.setCell ⟨g, o, none⟩ u) base v sts wds := by
  obtain ⟨vals, h1, h2, h3⟩ := h.out
  refine ⟨⟨vals, kept_or h1 (setCell_grown _ _ _) (fun q hq e2 => ?_), h2, fun i hi => ?_⟩, h.len⟩
  · cases hq; exact hn e2
  · obtain ⟨A, c, h4, h5⟩ := h3 i hi
    exact ⟨A, c, h4, kept_or h5 (setCell_grown _ _ _) (fun q hq e2 => by
      cases hq
      exact own_ne h5 hk (by decide) e2)⟩
/-- One pair more. -/
theorem OutW.push {v' : Value} {s : Two} {A : Option Addr} {c : Nat} {u : List Int} {vals : List Value} (h1 : w.ownsRow base 98 3 v sts.length (flatW sts vals)) (h2 : vals.length = sts.length) (h3 : ∀ i, i < sts.length → ∃ A c, vals[i]? = some (.slice A (tRM wds i).length c) ∧ Own w base (.slice A (tRM wds i).length c) (tRM wds i)) (hl : wds.length = sts.length)
    (hu : Own w base (.slice A u.length c) u) (ho : w'.ownsRow base 98 3 v' (sts.length + 1) (flatW sts vals ++ [.int .i64 s.1, .int .i64 s.2, .slice A u.length c])) (hg : w.grownBy w' v.ownBlock) : OutW w' base v' (sts ++ [s]) (wds ++ [u]) := by
  have keep : ∀ {x : List Int} {y : Value}, Own w base y x → Own w' base y x := fun hx => kept_or hx hg (fun q hq e2 => by
    rcases h1.2 with ⟨hv, _⟩ | ⟨g, cap, cur, hv, _, hh, _⟩
    · rw [hv] at hq; cases hq
    · rw [hv] at hq
      simp only [Value.ownBlock, Option.some.injEq] at hq
      subst hq
      exact own_ne hx hh (by decide) e2)
  refine ⟨⟨vals ++ [.slice A u.length c], ?_, by simp [h2], fun i hi => ?_⟩, by simp [hl]⟩
  · rw [flatW_snoc _ _ h2, List.length_append]; exact ho
  · rw [tRM_app]
    by_cases e : i < sts.length
    · rw [if_pos (by omega)]
      obtain ⟨B, d, h4, h5⟩ := h3 i e
      exact ⟨B, d, by rw [List.getElem?_append_left (by omega)]; exact h4, keep h5⟩
    · have e2 : i = wds.length := by simp at hi; omega
      subst e2
      rw [if_neg (by omega), if_pos rfl]
      exact ⟨A, c, by rw [List.getElem?_append_right (by omega), show wds.length - vals.length = 0 by omega]; rfl, keep hu⟩
/-- Its cells. -/
theorem OutW.cells (h : OutW w base v sts wds) (hpos : 0 < sts.length) : ∃ g c, v = .slice (some ⟨g, 0, none⟩) sts.length c ∧ base ≤ g ∧ ∀ i s, sts[i]? = some s → w.cell? ⟨g, i * 3, none⟩ = some (.int .i64 s.1) ∧ w.cell? ⟨g, i * 3 + 1, none⟩ = some (.int .i64 s.2) ∧ ∃ A c2, w.cell? ⟨g, i * 3 + 2, none⟩ = some (.slice A (tRM wds i).length c2) ∧ Own w base (.slice A (tRM wds i).length c2) (tRM wds i) := by
  obtain ⟨vals, h1, h2, h3⟩ := h.out
  obtain ⟨g, c, hv, hg, hg2⟩ := h1.form hpos
  subst hv
  refine ⟨g, c, rfl, hg, fun i s hs => ?_⟩
  have hi : i < sts.length := (List.getElem?_eq_some_iff.1 hs).1
  obtain ⟨A, c2, h4, h5⟩ := h3 i hi
  obtain ⟨a1, a2, a3⟩ := flatW_at sts vals h2 i s _ hs h4
  exact ⟨by rw [h1.cellAt _ (by omega)]; exact a1, by rw [h1.cellAt _ (by omega)]; exact a2, A, c2, by rw [h1.cellAt _ (by omega)]; exact a3, h5⟩
end
end Go.Proofs.Ytkboeldafppicaa
