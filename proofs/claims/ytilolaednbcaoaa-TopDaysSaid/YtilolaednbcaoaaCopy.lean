/- The document's own copy of a term. -/
import Derived.Test.YtilolaednbcaoaaCopyInts
import Derived.Test.YtilolaednbcaoaaValid
import Derived.Deep.RegionHeld3
set_option linter.unusedVariables false
namespace Go.Proofs.Ytilolaednbcaoaa
open Go.RowKit

/-- What a cell holds, whatever it is. -/
def rv (w : World) (p : Addr) : Value := match w.cell? p with | some v => v | none => .bool false
theorem rv_some {w : World} {p : Addr} {v : Value} (h : w.cell? p = some v) : w.cell? p = some (rv w p) := by
  unfold rv; rw [h]
theorem rv_below {w w' : World} {p : Addr} {v : Value} (h : w.cell? p = some v) (hb : Below w.heap.size w w') : w'.cell? p = some (rv w' p) := rv_some (by rw [hb.cell (cell_lt h)]; exact h)
theorem rv_store {w : World} {p q : Addr} {v u : Value} (h : w.cell? q = some u) : (w.setCell p v).cell? q = some (rv (w.setCell p v) q) := by
  obtain ⟨v', hv⟩ := cell?_setCell_some (p := p) (x := v) h
  exact rv_some hv
theorem unset_some {w : World} {p q : Addr} {v u : Value} (h : (w.setCell p v).cell? q = some u) : w.cell? q = some (rv w q) := by
  cases hc : w.cell? q with
  | some x => exact hc ▸ rv_some hc
  | none =>
    exfalso
    by_cases e : p = q
    · subst e
      unfold World.cell? at h hc
      unfold World.setCell at h
      simp only [Array.getElem?_modify, if_pos] at h
      cases hb : w.heap[p.block]? with
      | none => rw [hb] at h; simp at h
      | some o =>
        rw [hb] at h hc
        cases o <;> simp at h hc
        split at h <;> simp_all
    · rw [World.cell?_setCell_other _ _ _ _ e, hc] at h; cases h
def CopyS (w : World) (L : Int) (ra : Option Addr) (rs : List Int) (rc : Nat) (ca : Option Addr) (cs : List Int) (cc : Nat) (w' : World) : Prop :=
  w'.cell? ⟨w.heap.size, 0, none⟩ = some (.int .i64 L) ∧ w'.cell? ⟨w.heap.size, 1, none⟩ = some (.slice ra rs.length rc) ∧ w'.cell? ⟨w.heap.size, 2, none⟩ = some (.slice ca cs.length cc) ∧
  w'.cell? ⟨w.heap.size + 1, 0, none⟩ = some (rv w' ⟨w.heap.size + 1, 0, none⟩) ∧ w'.cell? ⟨w.heap.size + 1, 1, none⟩ = some (rv w' ⟨w.heap.size + 1, 1, none⟩) ∧ w'.cell? ⟨w.heap.size + 1, 2, none⟩ = some (rv w' ⟨w.heap.size + 1, 2, none⟩) ∧
  w'.frozen? ⟨w.heap.size + 1, 0, none⟩ = false ∧ w'.frozen? ⟨w.heap.size + 1, 1, none⟩ = false ∧ w'.frozen? ⟨w.heap.size + 1, 2, none⟩ = false ∧ Below w.heap.size w w'
section
variable {w : World} {L : Int} {ra : Option Addr} {rs : List Int} {rc : Nat} {ca : Option Addr} {cs : List Int} {cc : Nat}
theorem CopyS.below {w' : World} (h : CopyS w L ra rs rc ca cs cc w') : Below w.heap.size w w' := h.2.2.2.2.2.2.2.2.2
theorem CopyS.drew {w' : World} (h : CopyS w L ra rs rc ca cs cc w') : CopyS w L ra rs rc ca cs cc w'.drew := by
  obtain ⟨a0, a1, a2, b0, b1, b2, c0, c1, c2, p⟩ := h
  exact ⟨a0, a1, a2, b0, b1, b2, c0, c1, c2, p.drew⟩
theorem CopyS.keep {w' w2 : World} (h : CopyS w L ra rs rc ca cs cc w') (hb : Below w'.heap.size w' w2) : CopyS w L ra rs rc ca cs cc w2 := by
  obtain ⟨a0, a1, a2, b0, b1, b2, c0, c1, c2, p⟩ := h
  refine ⟨?_, ?_, ?_, ?_, ?_, ?_, ?_, ?_, ?_, p.trans (hb.mono p.size)⟩
  · rw [hb.cell (cell_lt a0)]; exact a0
  · rw [hb.cell (cell_lt a1)]; exact a1
  · rw [hb.cell (cell_lt a2)]; exact a2
  · exact rv_below b0 hb
  · exact rv_below b1 hb
  · exact rv_below b2 hb
  · rw [hb.frozen (cell_lt b0)]; exact c0
  · rw [hb.frozen (cell_lt b1)]; exact c1
  · rw [hb.frozen (cell_lt b2)]; exact c2
theorem CopyS.store {w' : World} (h : CopyS w L ra rs rc ca cs cc w') (i : Nat) (v : Value) : CopyS w L ra rs rc ca cs cc (w'.setCell ⟨w.heap.size + 1, i, none⟩ v) := by
  obtain ⟨a0, a1, a2, b0, b1, b2, c0, c1, c2, p⟩ := h
  refine ⟨by go_simp, by go_simp, by go_simp, rv_store b0, rv_store b1, rv_store b2, ?_, ?_, ?_, p.setCell (by simp) _⟩ <;> (rw [World.frozen?_setCell]; assumption)
end

set_option maxRecDepth 100000 in
set_option maxHeartbeats 3200000 in
theorem copy_any (L : Int) (ra : Option Addr) (rs : List Int) (rc : Nat) (ca : Option Addr) (cs : List Int) (cc : Nat) (w : World) (h : TermAt w L ra rs ca cs) (l1 : rs.length ≤ 1000) (l2 : cs.length ≤ 1000) :
  Calls Try.prog 27 #[.agg #[.int .i64 L, .slice ra rs.length rc, .slice ca cs.length cc]] w fun en w' => Below w.heap.size w w' ∧ ∃ v1 v2, en = .returned (.agg #[.int .i64 L, v1, v2]) ∧ Own w' w.heap.size v1 rs ∧ Own w' w.heap.size v2 cs := by
  have HRa := hid (fun (w' : World) (hb : Below w.heap.size w w') => copyInts_sl ra rs rc w' (h.below hb).rest (by omega))
  have HRb := hid (fun (w' : World) (hb : Below w.heap.size w w') => copyInts_sl ca cs cc w' (h.below hb).closed (by omega))
  have S0 := hid (show CopyS w L ra rs rc ca cs cc ((w.alloc (.cells #[.int .i64 L, .slice ra rs.length rc, .slice ca cs.length cc] 24)).alloc (.cells #[.int .i64 0, .slice none 0 0, .slice none 0 0] 24)) from
    ⟨by go_simp, by go_simp, by go_simp, rv_some (v := .int .i64 0) (by go_simp), rv_some (v := .slice none 0 0) (by go_simp), rv_some (v := .slice none 0 0) (by go_simp), by go_simp, by go_simp, by go_simp, ((Below.refl _ _).alloc (Nat.le_refl _) _).alloc (by simp) _⟩)
  go_enter Try.func27, Try.ntmps27
  go_wp2_with fail
  go_region_held3 (fun w' => w'.cell? ⟨w.heap.size, 0, none⟩ = some (.int .i64 L) ∧ w'.cell? ⟨w.heap.size, 1, none⟩ = some (.slice ra rs.length rc) ∧ w'.cell? ⟨w.heap.size, 2, none⟩ = some (.slice ca cs.length cc) ∧ w'.cell? ⟨w.heap.size + 1, 0, none⟩ = some (rv w' ⟨w.heap.size + 1, 0, none⟩) ∧ w'.cell? ⟨w.heap.size + 1, 1, none⟩ = some (rv w' ⟨w.heap.size + 1, 1, none⟩) ∧ w'.cell? ⟨w.heap.size + 1, 2, none⟩ = some (rv w' ⟨w.heap.size + 1, 2, none⟩) ∧ w'.frozen? ⟨w.heap.size + 1, 0, none⟩ = false ∧ w'.frozen? ⟨w.heap.size + 1, 1, none⟩ = false ∧ w'.frozen? ⟨w.heap.size + 1, 2, none⟩ = false ∧ Below w.heap.size w w') (first | exact S0.out.drew | exact S0.out | exact CopyS.keep (by assumption) (by assumption) | exact CopyS.store (CopyS.store (CopyS.store (by assumption) _ _) _ _) _ _)
    (first | (go_at_call_of 52 (Value.slice ra rs.length rc); refine (HRa.out _ ?_).mono ?_; (exact CopyS.below (by assumption)); rintro en w4 ⟨hb4, A4, c4, rfl, hown4⟩) | (go_at_call_of 52 (Value.slice ca cs.length cc); refine (HRb.out _ ?_).mono ?_; (exact CopyS.below (by assumption)); rintro en w5 ⟨hb5, A5, c5, rfl, hown5⟩))
  have hHeld : CopyS w L ra rs rc ca cs cc (((w5.setCell ⟨w.heap.size + 1, 0, none⟩ (.int .i64 L)).setCell ⟨w.heap.size + 1, 1, none⟩ (.slice A4 rs.length c4)).setCell ⟨w.heap.size + 1, 2, none⟩ (.slice A5 cs.length c5)) := by assumption
  have h4 : Own w5 (w.heap.size + 2) (.slice A4 rs.length c4) rs := own_weak (own_below hown4 hb5) (by simp <;> omega)
  have h5 : Own w5 (w.heap.size + 2) (.slice A5 cs.length c5) cs := own_weak hown5 (by have := hb4.size; simp at this; omega)
  obtain ⟨_, _, _, b0, b1, b2, _, _, _, p⟩ := hHeld
  have d0 := unset_some (unset_some (unset_some b0))
  have d1 := unset_some (unset_some (unset_some b1))
  have d2 := unset_some (unset_some (unset_some b2))
  have t0 := set3_cells w5 (w.heap.size + 1) (.int .i64 L) (.slice A4 rs.length c4) (.slice A5 cs.length c5) _ _ _ d0 d1 d2
  obtain ⟨t0, t1, t2⟩ := t0
  clear b0 b1 b2
  go_wp2
  refine bodyPost_ret (v := .agg #[.int .i64 L, .slice A4 rs.length c4, .slice A5 cs.length c5]) (by simp [results, Try.results27, go_sem, t0, t1, t2]) rfl ⟨p, _, _, rfl, ?_, ?_⟩
  · exact own_weak (own_setCell (own_setCell (own_setCell h4 _ (by simp) _) _ (by simp) _) _ (by simp) _) (by omega)
  · exact own_weak (own_setCell (own_setCell (own_setCell h5 _ (by simp) _) _ (by simp) _) _ (by simp) _) (by omega)

end Go.Proofs.Ytilolaednbcaoaa
