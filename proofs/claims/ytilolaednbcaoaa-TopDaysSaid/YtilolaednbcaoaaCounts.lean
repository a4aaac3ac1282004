/- The Go function Count of package term, and the document's own.
-/
import Derived.Test.YtilolaednbcaoaaOpens
import Derived.Test.YtilolaednbcaoaaCountsM
import Derived.Test.YtilolaednbcaoaaRef2
set_option linter.unusedVariables false
namespace Go.Proofs.Ytilolaednbcaoaa
open Go.RowKit Go.Shelf

attribute [local go_sem] Oper.semAt_some

set_option maxRecDepth 100000 in
set_option maxHeartbeats 2000000 in
theorem count_err1 (L : Int) (ra : Option Addr) (rs : List Int) (rc : Nat) (ca : Option Addr) (cs : List Int) (cc : Nat) (f t : Int) (w : World) (h : TermAt w L ra rs ca cs) (hz : validT L rs cs ≠ 0) :
  Calls Try.prog 11 #[.agg #[.int .i64 L, .slice ra rs.length rc, .slice ca cs.length cc], .int .i64 f, .int .i64 t] w (Int2R w (countL L rs cs f t)) := by
  have HM := hid (show countL L rs cs f t = (0, validT L rs cs) by rw [countL, if_pos hz])
  have hz' : (validT L rs cs != 0) = true := by simp [hz]
  clear hz
  refine (callsIn_wide (n := 0)).1 ?_
  refine callsIn_of_wp_marks Try.func11 rfl trivial ?_ rfl
  simp only [Try.ntmps11, List.size_toArray, List.length_cons, List.length_nil, Nat.reduceAdd, Nat.reduceSub, Array.replicate_succ, Array.replicate_zero, List.push_toArray, List.append_toArray, List.nil_append, List.cons_append]
  gi_wp2_with fail
  obtain ⟨wq, hwq⟩ : ∃ wq, (((w.alloc (.cells #[.int .i64 L, .slice ra rs.length rc, .slice ca cs.length cc] 24)).alloc (.cells #[.int .i64 f] 3)).alloc (.cells #[.int .i64 t] 3)) = wq := ⟨_, rfl⟩
  have q1 : Below w.heap.size w wq := by
    rw [← hwq]
    repeat (first | exact Below.refl _ _ | refine Below.alloc ?_ (by simp <;> omega) _)
  have hsz : wq.heap.size = w.heap.size + 1 + 1 + 1 := by rw [← hwq]; simp
  have b0 : wq.cell? ⟨w.heap.size, 0, none⟩ = some (.int .i64 L) := by rw [← hwq]; clear hwq; go_simp
  have b1 : wq.cell? ⟨w.heap.size, 1, none⟩ = some (.slice ra rs.length rc) := by rw [← hwq]; clear hwq; go_simp
  have b2 : wq.cell? ⟨w.heap.size, 2, none⟩ = some (.slice ca cs.length cc) := by rw [← hwq]; clear hwq; go_simp
  have g3 : wq.cell? ⟨w.heap.size + 1, 0, none⟩ = some (.int .i64 f) := by rw [← hwq]; clear hwq; go_simp
  have g4 : wq.cell? ⟨w.heap.size + 1 + 1, 0, none⟩ = some (.int .i64 t) := by rw [← hwq]; clear hwq; go_simp
  rw [hwq]
  clear hwq
  have hT := h.below q1
  refine ⟨trivial, rfl, ?_⟩
  refine (callsIn_wide.2 (validate_any L ra rs rc ca cs cc _ hT)).mono ?_
  rintro e w1 ⟨hb, rfl⟩
  have p1 := q1.trans (hb.mono (by omega))
  have hs1 := hb.size
  rw [← hb.cell (by simp; omega)] at b0 b1 b2 g3 g4
  gi_wp2
  exact ⟨_, results_tmp2 rfl _ _ _, p1, (by rw [HM.out]; rfl)⟩

set_option maxRecDepth 100000 in
set_option maxHeartbeats 2000000 in
theorem count_err2 (L : Int) (ra : Option Addr) (rs : List Int) (rc : Nat) (ca : Option Addr) (cs : List Int) (cc : Nat) (f t : Int) (w : World) (h : TermAt w L ra rs ca cs) (hz : validT L rs cs = 0) (h1 : f < 0) :
  Calls Try.prog 11 #[.agg #[.int .i64 L, .slice ra rs.length rc, .slice ca cs.length cc], .int .i64 f, .int .i64 t] w (Int2R w (countL L rs cs f t)) := by
  have HM := hid (show countL L rs cs f t = (0, 1) by rw [countL, if_neg (by simp [hz]), if_pos (by omega)])
  have HZ := hid hz
  clear hz
  refine (callsIn_wide (n := 0)).1 ?_
  refine callsIn_of_wp_marks Try.func11 rfl trivial ?_ rfl
  simp only [Try.ntmps11, List.size_toArray, List.length_cons, List.length_nil, Nat.reduceAdd, Nat.reduceSub, Array.replicate_succ, Array.replicate_zero, List.push_toArray, List.append_toArray, List.nil_append, List.cons_append]
  gi_wp2_with fail
  obtain ⟨wq, hwq⟩ : ∃ wq, (((w.alloc (.cells #[.int .i64 L, .slice ra rs.length rc, .slice ca cs.length cc] 24)).alloc (.cells #[.int .i64 f] 3)).alloc (.cells #[.int .i64 t] 3)) = wq := ⟨_, rfl⟩
  have q1 : Below w.heap.size w wq := by
    rw [← hwq]
    repeat (first | exact Below.refl _ _ | refine Below.alloc ?_ (by simp <;> omega) _)
  have hsz : wq.heap.size = w.heap.size + 1 + 1 + 1 := by rw [← hwq]; simp
  have b0 : wq.cell? ⟨w.heap.size, 0, none⟩ = some (.int .i64 L) := by rw [← hwq]; clear hwq; go_simp
  have b1 : wq.cell? ⟨w.heap.size, 1, none⟩ = some (.slice ra rs.length rc) := by rw [← hwq]; clear hwq; go_simp
  have b2 : wq.cell? ⟨w.heap.size, 2, none⟩ = some (.slice ca cs.length cc) := by rw [← hwq]; clear hwq; go_simp
  have g3 : wq.cell? ⟨w.heap.size + 1, 0, none⟩ = some (.int .i64 f) := by rw [← hwq]; clear hwq; go_simp
  have g4 : wq.cell? ⟨w.heap.size + 1 + 1, 0, none⟩ = some (.int .i64 t) := by rw [← hwq]; clear hwq; go_simp
  rw [hwq]
  clear hwq
  have hT := h.below q1
  refine ⟨trivial, rfl, ?_⟩
  refine (callsIn_wide.2 (validate_any L ra rs rc ca cs cc _ hT)).mono ?_
  rintro e w1 ⟨hb, rfl⟩
  have p1 := q1.trans (hb.mono (by omega))
  have hs1 := hb.size
  rw [← hb.cell (by simp; omega)] at b0 b1 b2 g3 g4
  rw [HZ.out]
  gi_wp2
  exact ⟨_, results_tmp2 rfl _ _ _, p1, (by rw [HM.out]; rfl)⟩

set_option maxRecDepth 100000 in
set_option maxHeartbeats 2000000 in
theorem count_err3 (L : Int) (ra : Option Addr) (rs : List Int) (rc : Nat) (ca : Option Addr) (cs : List Int) (cc : Nat) (f t : Int) (w : World) (h : TermAt w L ra rs ca cs) (hz : validT L rs cs = 0) (h0 : 0 ≤ f) (h1 : t < f) :
  Calls Try.prog 11 #[.agg #[.int .i64 L, .slice ra rs.length rc, .slice ca cs.length cc], .int .i64 f, .int .i64 t] w (Int2R w (countL L rs cs f t)) := by
  have HM := hid (show countL L rs cs f t = (0, 1) by rw [countL, if_neg (by simp [hz]), if_pos (by omega)])
  have HZ := hid hz
  clear hz
  refine (callsIn_wide (n := 0)).1 ?_
  refine callsIn_of_wp_marks Try.func11 rfl trivial ?_ rfl
  simp only [Try.ntmps11, List.size_toArray, List.length_cons, List.length_nil, Nat.reduceAdd, Nat.reduceSub, Array.replicate_succ, Array.replicate_zero, List.push_toArray, List.append_toArray, List.nil_append, List.cons_append]
  gi_wp2_with fail
  obtain ⟨wq, hwq⟩ : ∃ wq, (((w.alloc (.cells #[.int .i64 L, .slice ra rs.length rc, .slice ca cs.length cc] 24)).alloc (.cells #[.int .i64 f] 3)).alloc (.cells #[.int .i64 t] 3)) = wq := ⟨_, rfl⟩
  have q1 : Below w.heap.size w wq := by
    rw [← hwq]
    repeat (first | exact Below.refl _ _ | refine Below.alloc ?_ (by simp <;> omega) _)
  have hsz : wq.heap.size = w.heap.size + 1 + 1 + 1 := by rw [← hwq]; simp
  have b0 : wq.cell? ⟨w.heap.size, 0, none⟩ = some (.int .i64 L) := by rw [← hwq]; clear hwq; go_simp
  have b1 : wq.cell? ⟨w.heap.size, 1, none⟩ = some (.slice ra rs.length rc) := by rw [← hwq]; clear hwq; go_simp
  have b2 : wq.cell? ⟨w.heap.size, 2, none⟩ = some (.slice ca cs.length cc) := by rw [← hwq]; clear hwq; go_simp
  have g3 : wq.cell? ⟨w.heap.size + 1, 0, none⟩ = some (.int .i64 f) := by rw [← hwq]; clear hwq; go_simp
  have g4 : wq.cell? ⟨w.heap.size + 1 + 1, 0, none⟩ = some (.int .i64 t) := by rw [← hwq]; clear hwq; go_simp
  rw [hwq]
  clear hwq
  have hT := h.below q1
  refine ⟨trivial, rfl, ?_⟩
  refine (callsIn_wide.2 (validate_any L ra rs rc ca cs cc _ hT)).mono ?_
  rintro e w1 ⟨hb, rfl⟩
  have p1 := q1.trans (hb.mono (by omega))
  have hs1 := hb.size
  rw [← hb.cell (by simp; omega)] at b0 b1 b2 g3 g4
  rw [HZ.out]
  gi_wp2
  exact ⟨_, results_tmp2 rfl _ _ _, p1, (by rw [HM.out]; rfl)⟩

set_option maxRecDepth 100000 in
set_option maxHeartbeats 2000000 in
theorem count_err4 (L : Int) (ra : Option Addr) (rs : List Int) (rc : Nat) (ca : Option Addr) (cs : List Int) (cc : Nat) (f t : Int) (w : World) (h : TermAt w L ra rs ca cs) (hz : validT L rs cs = 0) (h0 : 0 ≤ f) (h0' : f ≤ t) (h1 : L < t) :
  Calls Try.prog 11 #[.agg #[.int .i64 L, .slice ra rs.length rc, .slice ca cs.length cc], .int .i64 f, .int .i64 t] w (Int2R w (countL L rs cs f t)) := by
  have HM := hid (show countL L rs cs f t = (0, 1) by rw [countL, if_neg (by simp [hz]), if_pos (by omega)])
  have HZ := hid hz
  clear hz
  refine (callsIn_wide (n := 0)).1 ?_
  refine callsIn_of_wp_marks Try.func11 rfl trivial ?_ rfl
  simp only [Try.ntmps11, List.size_toArray, List.length_cons, List.length_nil, Nat.reduceAdd, Nat.reduceSub, Array.replicate_succ, Array.replicate_zero, List.push_toArray, List.append_toArray, List.nil_append, List.cons_append]
  gi_wp2_with fail
  obtain ⟨wq, hwq⟩ : ∃ wq, (((w.alloc (.cells #[.int .i64 L, .slice ra rs.length rc, .slice ca cs.length cc] 24)).alloc (.cells #[.int .i64 f] 3)).alloc (.cells #[.int .i64 t] 3)) = wq := ⟨_, rfl⟩
  have q1 : Below w.heap.size w wq := by
    rw [← hwq]
    repeat (first | exact Below.refl _ _ | refine Below.alloc ?_ (by simp <;> omega) _)
  have hsz : wq.heap.size = w.heap.size + 1 + 1 + 1 := by rw [← hwq]; simp
  have b0 : wq.cell? ⟨w.heap.size, 0, none⟩ = some (.int .i64 L) := by rw [← hwq]; clear hwq; go_simp
  have b1 : wq.cell? ⟨w.heap.size, 1, none⟩ = some (.slice ra rs.length rc) := by rw [← hwq]; clear hwq; go_simp
  have b2 : wq.cell? ⟨w.heap.size, 2, none⟩ = some (.slice ca cs.length cc) := by rw [← hwq]; clear hwq; go_simp
  have g3 : wq.cell? ⟨w.heap.size + 1, 0, none⟩ = some (.int .i64 f) := by rw [← hwq]; clear hwq; go_simp
  have g4 : wq.cell? ⟨w.heap.size + 1 + 1, 0, none⟩ = some (.int .i64 t) := by rw [← hwq]; clear hwq; go_simp
  rw [hwq]
  clear hwq
  have hT := h.below q1
  refine ⟨trivial, rfl, ?_⟩
  refine (callsIn_wide.2 (validate_any L ra rs rc ca cs cc _ hT)).mono ?_
  rintro e w1 ⟨hb, rfl⟩
  have p1 := q1.trans (hb.mono (by omega))
  have hs1 := hb.size
  rw [← hb.cell (by simp; omega)] at b0 b1 b2 g3 g4
  rw [HZ.out]
  gi_wp2
  exact ⟨_, results_tmp2 rfl _ _ _, p1, (by rw [HM.out]; rfl)⟩

set_option maxRecDepth 100000 in
set_option maxHeartbeats 2000000 in
theorem count_ok (L : Int) (ra : Option Addr) (rs : List Int) (rc : Nat) (ca : Option Addr) (cs : List Int) (cc : Nat) (f t : Int) (w : World) (h : TermAt w L ra rs ca cs) (hz : validT L rs cs = 0) (h0 : 0 ≤ f) (h1 : f ≤ t) (h2 : t ≤ L) :
  Calls Try.prog 11 #[.agg #[.int .i64 L, .slice ra rs.length rc, .slice ca cs.length cc], .int .i64 f, .int .i64 t] w (Int2R w (countL L rs cs f t)) := by
  have HM := hid (show countL L rs cs f t = (cnt (sdl (wd rs cs L.toNat)) f t, 0) by rw [countL, if_neg (by simp [hz]), if_neg (by omega)])
  have HZ := hid hz
  have hL2 := (validT_ok hz).2.1
  clear hz
  refine (callsIn_wide (n := 0)).1 ?_
  refine callsIn_of_wp_marks Try.func11 rfl trivial ?_ rfl
  simp only [Try.ntmps11, List.size_toArray, List.length_cons, List.length_nil, Nat.reduceAdd, Nat.reduceSub, Array.replicate_succ, Array.replicate_zero, List.push_toArray, List.append_toArray, List.nil_append, List.cons_append]
  gi_wp2_with fail
  obtain ⟨wq, hwq⟩ : ∃ wq, (((w.alloc (.cells #[.int .i64 L, .slice ra rs.length rc, .slice ca cs.length cc] 24)).alloc (.cells #[.int .i64 f] 3)).alloc (.cells #[.int .i64 t] 3)) = wq := ⟨_, rfl⟩
  have q1 : Below w.heap.size w wq := by
    rw [← hwq]
    repeat (first | exact Below.refl _ _ | refine Below.alloc ?_ (by simp <;> omega) _)
  have hsz : wq.heap.size = w.heap.size + 1 + 1 + 1 := by rw [← hwq]; simp
  have b0 : wq.cell? ⟨w.heap.size, 0, none⟩ = some (.int .i64 L) := by rw [← hwq]; clear hwq; go_simp
  have b1 : wq.cell? ⟨w.heap.size, 1, none⟩ = some (.slice ra rs.length rc) := by rw [← hwq]; clear hwq; go_simp
  have b2 : wq.cell? ⟨w.heap.size, 2, none⟩ = some (.slice ca cs.length cc) := by rw [← hwq]; clear hwq; go_simp
  have g3 : wq.cell? ⟨w.heap.size + 1, 0, none⟩ = some (.int .i64 f) := by rw [← hwq]; clear hwq; go_simp
  have g4 : wq.cell? ⟨w.heap.size + 1 + 1, 0, none⟩ = some (.int .i64 t) := by rw [← hwq]; clear hwq; go_simp
  rw [hwq]
  clear hwq
  have hT := h.below q1
  refine ⟨trivial, rfl, ?_⟩
  refine (callsIn_wide.2 (validate_any L ra rs rc ca cs cc _ hT)).mono ?_
  rintro e w1 ⟨hb, rfl⟩
  have p1 := q1.trans (hb.mono (by omega))
  have hs1 := hb.size
  rw [← hb.cell (by simp; omega)] at b0 b1 b2 g3 g4
  rw [HZ.out]
  have hn0 : w.heap.size < w1.heap.size := by omega
  gi_wp2_with fail
  obtain ⟨wc, hwc⟩ : ∃ wc, w1.alloc (.cells #[.int .i64 0] 3) = wc := ⟨_, rfl⟩
  have hbc : Below w1.heap.size w1 wc := by rw [← hwc]; exact (Below.refl _ _).alloc (Nat.le_refl _) _
  have n0 : wc.cell? ⟨w1.heap.size, 0, none⟩ = some (.int .i64 0) := by rw [← hwc]; clear hwc; go_simp
  have m0 : wc.frozen? ⟨w1.heap.size, 0, none⟩ = false := by rw [← hwc]; clear hwc; go_simp
  have hsc : wc.heap.size = w1.heap.size + 1 := by rw [← hwc]; simp
  rw [← hbc.cell (by simp; omega)] at b0 b1 b2 g3 g4
  rw [hwc]
  clear hwc
  have p2 := p1.trans (hbc.mono (by omega))
  refine ⟨trivial, rfl, ?_⟩
  refine (callsIn_wide.2 (schoolDays_any _ _ _ _)).mono ?_
  rintro e w3 ⟨hw3, rfl⟩
  have hb3 : Below wc.heap.size wc w3 := by rw [← hw3]; exact (Below.refl _ _).alloc (Nat.le_refl _) _
  have z0 : w3.cell? ⟨wc.heap.size, 0, none⟩ = some (.int .i64 L) := by rw [← hw3]; clear hw3; go_simp
  have z1 : w3.cell? ⟨wc.heap.size, 1, none⟩ = some (.slice ra rs.length rc) := by rw [← hw3]; clear hw3; go_simp
  have z2 : w3.cell? ⟨wc.heap.size, 2, none⟩ = some (.slice ca cs.length cc) := by rw [← hw3]; clear hw3; go_simp
  have hs3 : w3.heap.size = wc.heap.size + 1 := by rw [← hw3]; simp
  rw [hsc] at z0 z1 z2
  clear hw3
  have p3 := p2.trans (hb3.mono (by omega))
  rw [← hb3.cell (by simp; omega)] at g3 g4 n0
  rw [← hb3.frozen (by simp; omega)] at m0
  gi_wp2_with fail
  refine wpIn_range (gf := 62) (lb := #[.pointer (some ⟨(w1.heap.size + 1), 0, none⟩)]) rfl (enters_of Try.func62 (by kernel_rfl) rfl)
    (schoolDays_iter L ra rs rc ca cs cc (w1.heap.size + 1) w w3 h HZ.out (by omega) (fun b hlt => p3.block b hlt) z0 z1 z2)
    (fun b hh => by omega) (fun b _ => rfl) (fun _ => rfl)
    (fun pre W1 => W1.cell? ⟨w.heap.size + 1, 0, none⟩ = some (.int .i64 f) ∧ W1.cell? ⟨w.heap.size + 1 + 1, 0, none⟩ = some (.int .i64 t) ∧ W1.cell? ⟨w1.heap.size, 0, none⟩ = some (.int .i64 (cnt pre f t)) ∧ W1.frozen? ⟨w1.heap.size, 0, none⟩ = false ∧ Below w.heap.size w W1)
    (fun c pre W1 => False) ?hI ?hIx ?h0 ?round ?done ?stop
  case hI =>
    rintro p A B ⟨i0, i1, i2, i3, i6⟩ hK
    exact ⟨hK.cell i0 (by simp; omega), hK.cell i1 (by simp; omega), hK.cell i2 (by simp; omega), by rw [hK.frozen (cell_lt i2) (by simp; omega)]; exact i3, i6.trans (hK.below i6.size (fun b hb hh => by have : w3.heap.size ≤ b := hh; omega))⟩
  case hIx => exact fun c p A B hh _ => hh
  case h0 => exact ⟨g3, g4, n0, m0, p3⟩
  case round =>
    rintro l pre x W1 hsuf hs4 ⟨i0, i1, i2, i3, i6⟩ Wa K hK
    have hpl := sd_len rs cs L.toNat pre x hsuf
    have hcb := cnt_bd pre f t
    have HQ := hid (cnt_snoc pre x f t)
    by_cases h4 : f ≤ x
    · by_cases h5 : x < t
      · have HX := hid (show cnt (pre ++ [x]) f t = cnt pre f t + 1 by rw [HQ.out, if_pos ⟨h4, h5⟩])
        gi_wp2
        have hcw := World.cell?_setCell_same' W1 ⟨w1.heap.size, 0, none⟩ (.int .i64 (cnt pre f t + 1)) (by rw [i2]; rfl)
        exact ⟨(Keeps.refl _ W1).setCell (.inl ⟨by simp; omega, by simp; omega⟩) _, by go_simp, by go_simp, by rw [HX.out]; exact hcw, by rw [World.frozen?_setCell]; exact i3, i6.setCell (by simp <;> omega) _⟩
      · have HX := hid (show cnt (pre ++ [x]) f t = cnt pre f t by rw [HQ.out, if_neg (by omega)]; simp)
        gi_wp2
        exact ⟨Keeps.refl _ W1, i0, i1, by rw [HX.out]; exact i2, i3, i6⟩
    · have HX := hid (show cnt (pre ++ [x]) f t = cnt pre f t by rw [HQ.out, if_neg (by omega)]; simp)
      gi_wp2
      exact ⟨Keeps.refl _ W1, i0, i1, by rw [HX.out]; exact i2, i3, i6⟩
  case done =>
    rintro W1 hs4 ⟨i0, i1, i2, i3, i6⟩ hD
    gi_wp2
    refine ⟨by simp, .inl ⟨_, _, rfl, run_takeDeferred hD, ?_⟩⟩
    exact ⟨_, results_tmp2 rfl _ _ _, i6.trans (putObj_below (by omega) _), (by rw [HM.out]; rfl)⟩
  case stop => exact fun c pre W1 _ _ hh _ => hh.elim

theorem count_any (L : Int) (ra : Option Addr) (rs : List Int) (rc : Nat) (ca : Option Addr) (cs : List Int) (cc : Nat) (f t : Int) (w : World) (h : TermAt w L ra rs ca cs) :
  Calls Try.prog 11 #[.agg #[.int .i64 L, .slice ra rs.length rc, .slice ca cs.length cc], .int .i64 f, .int .i64 t] w (Int2R w (countL L rs cs f t)) := by
  by_cases hz : validT L rs cs = 0
  · by_cases h0 : f < 0
    · exact count_err2 L ra rs rc ca cs cc f t w h hz h0
    · by_cases h1 : t < f
      · exact count_err3 L ra rs rc ca cs cc f t w h hz (by omega) h1
      · by_cases h2 : L < t
        · exact count_err4 L ra rs rc ca cs cc f t w h hz (by omega) (by omega) h2
        · exact count_ok L ra rs rc ca cs cc f t w h hz (by omega) (by omega) (by omega)
  · exact count_err1 L ra rs rc ca cs cc f t w h hz

set_option maxRecDepth 100000 in
set_option maxHeartbeats 4000000 in
theorem rcount_any (L : Int) (ra : Option Addr) (rs : List Int) (rc : Nat) (ca : Option Addr) (cs : List Int) (cc : Nat) (f t : Int) (w : World) (h : TermAt w L ra rs ca cs) :
  Calls Try.prog 12 #[.agg #[.int .i64 L, .slice ra rs.length rc, .slice ca cs.length cc], .int .i64 f, .int .i64 t] w (Int2R w (countL L rs cs f t)) := by
  have hB := (Below.refl w.heap.size w).alloc (Nat.le_refl _) (.cells #[.int .i64 L, .slice ra rs.length rc, .slice ca cs.length cc] 24)
  have hA := h.below hB
  by_cases hz : validT L rs cs = 0
  · have HZ := hid hz
    clear hz
    by_cases c0 : f < 0
    · skip
      have HM := hid (show countL L rs cs f t = (0, 1) by rw [countL, if_neg (by simp [HZ.out]), if_pos (by omega)])
      go_enter Try.func12, Try.ntmps12
      go_wp2_with fail
      refine (rvalidate_any _ _ _ _ _ _ _ _ hA).mono ?_
      rintro e w1 ⟨hb, rfl⟩
      have p1 := hB.trans (hb.mono (by simp))
      obtain ⟨d1, d2⟩ := bcell hb
      simp only [World.size_alloc] at d1 d2
      rw [HZ.out]
      go_wp2
      go_ret2
      exact ⟨p1, ret_ints (by rw [HM.out]) (by rw [HM.out])⟩
    · have c0' : 0 ≤ f := by omega
      by_cases c1 : t < f
      · skip
        have HM := hid (show countL L rs cs f t = (0, 1) by rw [countL, if_neg (by simp [HZ.out]), if_pos (by omega)])
        go_enter Try.func12, Try.ntmps12
        go_wp2_with fail
        refine (rvalidate_any _ _ _ _ _ _ _ _ hA).mono ?_
        rintro e w1 ⟨hb, rfl⟩
        have p1 := hB.trans (hb.mono (by simp))
        obtain ⟨d1, d2⟩ := bcell hb
        simp only [World.size_alloc] at d1 d2
        rw [HZ.out]
        go_wp2
        go_ret2
        exact ⟨p1, ret_ints (by rw [HM.out]) (by rw [HM.out])⟩
      · have c1' : f ≤ t := by omega
        by_cases c2 : L < t
        · skip
          have HM := hid (show countL L rs cs f t = (0, 1) by rw [countL, if_neg (by simp [HZ.out]), if_pos (by omega)])
          go_enter Try.func12, Try.ntmps12
          go_wp2_with fail
          refine (rvalidate_any _ _ _ _ _ _ _ _ hA).mono ?_
          rintro e w1 ⟨hb, rfl⟩
          have p1 := hB.trans (hb.mono (by simp))
          obtain ⟨d1, d2⟩ := bcell hb
          simp only [World.size_alloc] at d1 d2
          rw [HZ.out]
          go_wp2
          go_ret2
          exact ⟨p1, ret_ints (by rw [HM.out]) (by rw [HM.out])⟩
        · have c2' : t ≤ L := by omega
          have hL2 := (validT_ok HZ.out).2.1
          have HM := hid (show countL L rs cs f t = (rcn rs cs f (t - f).toNat, 0) by rw [countL, if_neg (by simp [HZ.out]), if_neg (by omega), cnt_rcn' rs cs L f t c0' c1' c2'])
          have hb1 : decide (f < 0) = false := by simp; omega
          have hb2 : decide (L < t) = false := by simp; omega
          have hb3 : decide (t < f) = false := by simp; omega
          go_enter Try.func12, Try.ntmps12
          go_wp2_with fail
          refine (rvalidate_any _ _ _ _ _ _ _ _ hA).mono ?_
          rintro e w1 ⟨hb, rfl⟩
          have p1 := hB.trans (hb.mono (by simp))
          obtain ⟨d1, d2⟩ := bcell hb
          simp only [World.size_alloc] at d1 d2
          have hs1 := hb.size
          simp only [World.size_alloc] at hs1
          have a0 : w1.cell? ⟨w.heap.size, 0, none⟩ = some (.int .i64 L) := by rw [d1 _ _ (by omega)]; go_simp
          have a1 : w1.cell? ⟨w.heap.size, 1, none⟩ = some (.slice ra rs.length rc) := by rw [d1 _ _ (by omega)]; go_simp
          have a2 : w1.cell? ⟨w.heap.size, 2, none⟩ = some (.slice ca cs.length cc) := by rw [d1 _ _ (by omega)]; go_simp
          clear d1 d2
          rw [HZ.out]
          go_wp2
          go_loopw [9, 10] (fun x i wr => ∃ (j : Nat), f + (j : Int) ≤ t ∧ i = .int .i64 (f + (j : Int)) ∧ x = .int .i64 (rcn rs cs f j) ∧ Below w.heap.size w wr ∧ w.heap.size < wr.heap.size ∧ wr.cell? ⟨w.heap.size, 0, none⟩ = some (.int .i64 L) ∧ wr.cell? ⟨w.heap.size, 1, none⟩ = some (.slice ra rs.length rc) ∧ wr.cell? ⟨w.heap.size, 2, none⟩ = some (.slice ca cs.length cc)) (fun _ i _ => (t - intOf i).toNat)
          case atStart => exact ⟨0, by simp; omega, by simp, rfl, p1, by omega, a0, a1, a2⟩
          case round =>
            clear a0 a1 a2
            obtain ⟨j, hj, rfl, rfl, hB2, hsz2, a0, a1, a2⟩ := hrel
            have hbd := rcn_bd rs cs f j
            have HS := hid (show rcn rs cs f (j + 1) = rcn rs cs f j + if openB rs cs (f + (j : Int)) then 1 else 0 from rfl)
            by_cases hlt : f + (j : Int) < t
            · cases ho : openB rs cs (f + (j : Int))
              all_goals
                go_wp2_with fail
                refine (ropen_any _ _ _ _ _ _ _ _ _ (h.below hB2) (by omega)).mono ?_
                rintro e w3 ⟨q3, rfl⟩
                have p3 := hB2.trans (q3.mono hB2.size)
                have hs3 := q3.size
                rw [← q3.cell (by simp; omega)] at a0 a1 a2
                rw [ho]
                go_wp2
                go_roundw
                case rel =>
                  exact ⟨j + 1, by omega, by rw [show f + ((j + 1 : Nat) : Int) = f + (j : Int) + 1 by omega], by rw [HS.out, ho]; simp, p3, by omega, a0, a1, a2⟩
                case measure => simp [intOf]; omega
            · have HE := hid (show (t - f).toNat = j by omega)
              go_wp2
              go_ret2
              exact ⟨hB2, ret_ints (by rw [HM.out, HE.out]) (by rw [HM.out])⟩
  · have hz' : (validT L rs cs != 0) = true := by simp [hz]
    have HM := hid (show countL L rs cs f t = (0, validT L rs cs) by rw [countL, if_pos hz])
    clear hz
    go_enter Try.func12, Try.ntmps12
    go_wp2_with fail
    refine (rvalidate_any _ _ _ _ _ _ _ _ hA).mono ?_
    rintro e w1 ⟨hb, rfl⟩
    have p1 := hB.trans (hb.mono (by simp))
    obtain ⟨d1, d2⟩ := bcell hb
    simp only [World.size_alloc] at d1 d2
    go_wp2
    go_ret2
    exact ⟨p1, (by rw [HM.out]; rfl)⟩

end Go.Proofs.Ytilolaednbcaoaa
