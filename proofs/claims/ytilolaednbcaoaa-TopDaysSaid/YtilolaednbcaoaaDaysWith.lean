/- The Go function daysWith of package term. -/
import Derived.Test.YtilolaednbcaoaaDaysG
import Derived.Test.YtilolaednbcaoaaRows2
import Derived.Test.YtilolaednbcaoaaMenu
import Derived.Test.YtilolaednbcaoaaDaysWithM
import Derived.Maps.AppendAt
set_option linter.unusedVariables false
namespace Go.Proofs.Ytilolaednbcaoaa
open Go.RowKit Go.Shelf

attribute [local go_sem] Oper.semAt_some

theorem own_keeps {U : Nat → Prop} {A B : World} {base : Nat} {e : TypeId} {s : Nat} {v : Value} {n : Nat} {xs : List Value} (h : A.ownsRow base e s v n xs) (hk : Keeps U A B) (hu : ∀ b, base ≤ b → ¬ U b) : B.ownsRow base e s v n xs := by
  obtain ⟨h1, h2⟩ := h
  refine ⟨h1, ?_⟩
  rcases h2 with h2 | ⟨g, cap, cur, hv, hg, hh, r⟩
  · exact .inl h2
  · exact .inr ⟨g, cap, cur, hv, hg, by rw [hk.block g (Array.getElem?_eq_some_iff.1 hh).1 (hu g hg)]; exact hh, r⟩
theorem Keeps.grown {U : Nat → Prop} {A B C : World} {row : Option Nat} (h : Keeps U A B) (hg : B.grownBy C row) (hr : ∀ r, row = some r → U r ∨ A.heap.size ≤ r) : Keeps U A C :=
  ⟨hg.os.trans h.os, hg.tape.trans h.tape, hg.output.trans h.output, Nat.le_trans h.size hg.size, fun k hk hu => by
    rw [hg.block k (Nat.lt_of_lt_of_le hk h.size) (fun e => by rcases hr k e.symm with h1 | h1; exact hu h1; omega)]; exact h.block k hk hu⟩

def OwnR2 (w : World) (base : Nat) (xs : List Int) (en : Ending) (w' : World) : Prop := Below w.heap.size w w' ∧ ∃ v, en = .returned v ∧ Own w' base v xs

set_option maxRecDepth 100000 in
set_option maxHeartbeats 4000000 in
theorem daysWith_any (L : Int) (ra : Option Addr) (rs : List Int) (rc : Nat) (ca : Option Addr) (cs : List Int) (cc : Nat) (m f k x : Int) (w : World) (h : TermAt w L ra rs ca cs)
  (hv : validT L rs cs = 0) (hvc : badC m f k = false) :
  Calls Try.prog 49 #[.agg #[.int .i64 L, .slice ra rs.length rc, .slice ca cs.length cc], .agg #[.int .i64 m, .int .i64 f, .int .i64 k], .int .i64 x] w (OwnR2 w w.heap.size (dw x (mdays L rs cs m f k))) := by
  obtain ⟨i0, hi, hz0, hz1, hz2⟩ := info_parts int_info
  have hL2 := (validT_ok hv).2.1
  refine (callsIn_wide (n := 0)).1 ?_
  refine callsIn_of_wp_marks Try.func49 rfl trivial ?_ rfl
  simp only [Try.ntmps49, List.size_toArray, List.length_cons, List.length_nil, Nat.reduceAdd, Nat.reduceSub, Array.replicate_succ, Array.replicate_zero, List.push_toArray, List.append_toArray, List.nil_append, List.cons_append]
  gi_wp2_with fail
  obtain ⟨wq, hwq⟩ : ∃ wq, (((w.alloc (.cells #[.int .i64 L, .slice ra rs.length rc, .slice ca cs.length cc] 24)).alloc (.cells #[.int .i64 m, .int .i64 f, .int .i64 k] 38)).alloc (.cells #[.int .i64 x] 3)).alloc (.cells #[.slice none 0 0] 22) = wq := ⟨_, rfl⟩
  have q1 : Below w.heap.size w wq := by
    rw [← hwq]
    repeat (first | exact Below.refl _ _ | refine Below.alloc ?_ (by simp <;> omega) _)
  have hsz : wq.heap.size = w.heap.size + 1 + 1 + 1 + 1 := by rw [← hwq]; simp
  have g3 : wq.cell? ⟨w.heap.size + 1 + 1, 0, none⟩ = some (.int .i64 x) := by rw [← hwq]; clear hwq; go_simp
  have r0 : wq.cell? ⟨w.heap.size + 1 + 1 + 1, 0, none⟩ = some (.slice none 0 0) := by rw [← hwq]; clear hwq; go_simp
  have f0 : wq.frozen? ⟨w.heap.size + 1 + 1 + 1, 0, none⟩ = false := by rw [← hwq]; clear hwq; go_simp
  rw [hwq]
  clear hwq
  refine ⟨trivial, rfl, ?_⟩
  refine (callsIn_wide.2 (menus_any _ _ _ _ _ _ _)).mono ?_
  rintro e w3 ⟨hw3, rfl⟩
  have hb3 : Below wq.heap.size wq w3 := by rw [← hw3]; exact ((Below.refl _ _).alloc (Nat.le_refl _) _).alloc (by simp) _
  have z0 : w3.cell? ⟨wq.heap.size, 0, none⟩ = some (.int .i64 L) := by rw [← hw3]; clear hw3; go_simp
  have z1 : w3.cell? ⟨wq.heap.size, 1, none⟩ = some (.slice ra rs.length rc) := by rw [← hw3]; clear hw3; go_simp
  have z2 : w3.cell? ⟨wq.heap.size, 2, none⟩ = some (.slice ca cs.length cc) := by rw [← hw3]; clear hw3; go_simp
  have y0 : w3.cell? ⟨wq.heap.size + 1, 0, none⟩ = some (.int .i64 m) := by rw [← hw3]; clear hw3; go_simp
  have y1 : w3.cell? ⟨wq.heap.size + 1, 1, none⟩ = some (.int .i64 f) := by rw [← hw3]; clear hw3; go_simp
  have y2 : w3.cell? ⟨wq.heap.size + 1, 2, none⟩ = some (.int .i64 k) := by rw [← hw3]; clear hw3; go_simp
  have hs3 : w3.heap.size = wq.heap.size + 1 + 1 := by rw [← hw3]; simp
  clear hw3
  have p3 := q1.trans (hb3.mono (by omega))
  rw [hsz] at z0 z1 z2 y0 y1 y2
  rw [← hb3.cell (by simp; omega)] at g3 r0
  rw [← hb3.frozen (by simp; omega)] at f0
  gi_wp2_with fail
  refine wpIn_rangeG (gf := 64) (lb := #[.pointer (some ⟨w.heap.size + 1 + 1 + 1 + 1 + 1, 0, none⟩), .pointer (some ⟨w.heap.size + 1 + 1 + 1 + 1, 0, none⟩)]) rfl (enters_of Try.func64 (by kernel_rfl) rfl)
    (menus_iterG L ra rs rc ca cs cc m f k ((w.heap.size + 1 + 1 + 1 + 1) + 1) (w.heap.size + 1 + 1 + 1 + 1) w w3 h hv hvc (by omega) (by omega) (fun b hlt => p3.block b hlt) z0 z1 z2 y0 y1 y2)
    (fun b hh => by omega) (fun b _ => rfl) (fun _ => rfl)
    (fun M' pre W1 => ∃ v, W1.cell? ⟨w.heap.size + 1 + 1 + 1, 0, none⟩ = some v ∧ W1.frozen? ⟨w.heap.size + 1 + 1 + 1, 0, none⟩ = false ∧ W1.ownsRow M' 3 1 v (dw x pre).length ((dw x pre).map (Value.int .i64)) ∧
      W1.cell? ⟨w.heap.size + 1 + 1, 0, none⟩ = some (.int .i64 x) ∧ Below w.heap.size w W1)
    (fun M' c pre W1 => False) ?hI ?hIx ?h0 ?round ?done ?stop
  case hI =>
    rintro M' p A B hM' ⟨v, i1, i2, i3, i4, i5⟩ hK
    exact ⟨v, hK.cell i1 (by simp; omega), by rw [hK.frozen (cell_lt i1) (by simp; omega)]; exact i2, own_keeps i3 hK (fun b hb hh => by omega), hK.cell i4 (by simp; omega), i5.trans (hK.below i5.size (fun b hb hh => by omega))⟩
  case hIx => exact fun _ _ _ _ _ _ hh _ => hh
  case h0 =>
    intro W1 hb1 hs1
    exact ⟨_, by rw [hb1.cell (by simp; omega)]; exact r0, by rw [hb1.frozen (by simp; omega)]; exact f0, ⟨rfl, .inl ⟨rfl, rfl⟩⟩, by rw [hb1.cell (by simp; omega)]; exact g3, p3.trans (hb1.mono (by omega))⟩
  case round =>
    rintro l M' pre ⟨d, y⟩ W1 hM1 hM2 hsuf hs1 ⟨v, i1, i2, i3, i4, i5⟩ Wa K hK
    have hpl : pre.length < L.toNat := by
      obtain ⟨suf, hs⟩ := hsuf
      have := mdays_len L rs cs m f k
      unfold mdays at this
      rw [hs] at this
      simp at this
      omega
    have hdl := dw_len x pre
    by_cases he : y = x
    · subst he
      have HQ := hid (dw_yes y d pre)
      have hyy : (y == y) = true := by simp
      have hb3' : w.heap.size + 1 + 1 + 1 < W1.heap.size := cell_lt i1
      gi_wp2_with (gi_at_builtin; refine wpListIn_append_own _ rfl _ _ 22 rfl M' 3 i0 (.int .i64 0) 1 8 Try.underlying22 hi hz0 hz1 hz2 rfl (by decide) _ _ _ rfl (i3.alloc _) ⟨W1.heap.size, 0, none⟩ 1 1 [.int .i64 d] rfl rfl ?c1 ?c2 ?c3 ?c4 ?c5 ?_)
      case c1 => exact cell_one_new _ _ _
      case c2 => simp [Value.oneCell']
      case c3 => unfold maxLen; omega
      case c4 => omega
      case c5 => simp; omega
      intro v' w2 hown2 hgrow _
      obtain ⟨g', cap', rfl⟩ := ownsRow_succ hown2
      have hne : ∀ q, q < M' → some q ≠ v.ownBlock := fun q hq e => by have := (i3.lt q e.symm).1; omega
      have c1 := hgrow.cell ((World.cell?_alloc_past _ _ _ hb3').trans i1) (hne _ (by simp; omega))
      have c2 : w2.frozen? ⟨w.heap.size + 1 + 1 + 1, 0, none⟩ = false := by
        rw [World.frozen?_of_block (w := W1.alloc (.cells #[.int .i64 d] 3)) (hgrow.block (w.heap.size + 1 + 1 + 1) (by simp; omega) (hne (w.heap.size + 1 + 1 + 1) (by omega))), World.frozen?_alloc_past _ _ _ hb3']
        exact i2
      have c4 := hgrow.cell ((World.cell?_alloc_past _ _ _ (show w.heap.size + 1 + 1 < W1.heap.size by omega)).trans i4) (hne _ (by simp; omega))
      have kk : Keeps (fun b => (b < w3.heap.size ∧ ¬(b = w.heap.size + 1 + 1 + 1 + 1 + 1 ∨ b = w.heap.size + 1 + 1 + 1 + 1 ∨ b < w.heap.size)) ∨ M' ≤ b) W1 w2 :=
        Keeps.grown ((Keeps.refl _ W1).alloc _) hgrow (fun r e => .inl (.inr (i3.lt r e).1))
      have p2 : Below w.heap.size w w2 := (i5.alloc i5.size _).grown hgrow (by have := i5.size; simp; omega) (fun q hq => by have := (i3.lt q hq).1; omega)
      clear hgrow hne
      gi_wp2
      refine ⟨kk.setCell (.inl (.inl ⟨by simp; omega, by simp; omega⟩)) _, _, World.cell?_setCell_same' _ _ _ (by rw [c1]; rfl), by rw [World.frozen?_setCell]; exact c2, ?_, by go_simp, p2.setCell (by simp; omega) _⟩
      rw [HQ.out]
      refine own_keeps (U := (· = w.heap.size + 1 + 1 + 1)) ?_ ((Keeps.refl (· = w.heap.size + 1 + 1 + 1) w2).setCell (p := ⟨w.heap.size + 1 + 1 + 1, 0, none⟩) (.inl rfl) _) (fun b hb hh => by have : b = w.heap.size + 1 + 1 + 1 := hh; omega)
      simpa using hown2
    · have he' : (y == x) = false := by simp [he]
      have HQ := hid (dw_no x d y pre he)
      clear he
      gi_wp2
      refine ⟨Keeps.refl _ W1, v, i1, i2, ?_, i4, i5⟩
      rw [HQ.out]
      exact i3
  case done =>
    rintro M' W1 hM1 hs1 ⟨v, i1, i2, i3, i4, i5⟩ hD
    gi_wp2
    refine ⟨by simp, .inl ⟨_, _, rfl, run_takeDeferred hD, ?_⟩⟩
    refine ⟨_, results_tmp rfl _ _ _, i5.trans (putObj_below (by omega) _), _, rfl, ?_⟩
    exact own_weak (own_keeps i3 ((Keeps.refl (· = w3.heap.size) W1).putObj (.inl rfl) _) (fun b hb hh => by have : b = w3.heap.size := hh; omega)) (by omega)
  case stop => exact fun _ _ _ _ _ _ _ hh _ => hh.elim

end Go.Proofs.Ytilolaednbcaoaa
