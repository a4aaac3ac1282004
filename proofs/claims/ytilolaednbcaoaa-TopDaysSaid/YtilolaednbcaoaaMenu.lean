/- The Go function Menu of package term. -/
import Derived.Test.YtilolaednbcaoaaDays
import Derived.Test.YtilolaednbcaoaaMenuM
set_option linter.unusedVariables false
namespace Go.Proofs.Ytilolaednbcaoaa
open Go.RowKit Go.Shelf

attribute [local go_sem] Oper.semAt_some

def Int2R (w : World) (p : Int × Int) (en : Ending) (w' : World) : Prop := Below w.heap.size w w' ∧ en = .returned (.tuple #[.int .i64 p.1, .int .i64 p.2])

set_option maxRecDepth 100000 in
set_option maxHeartbeats 2000000 in
theorem menu_err1 (L : Int) (ra : Option Addr) (rs : List Int) (rc : Nat) (ca : Option Addr) (cs : List Int) (cc : Nat) (m f k d : Int) (w : World) (h : TermAt w L ra rs ca cs)
  (hz : checkC L rs cs [(m, f, k)] ≠ 0) :
  Calls Try.prog 18 #[.agg #[.int .i64 L, .slice ra rs.length rc, .slice ca cs.length cc], .agg #[.int .i64 m, .int .i64 f, .int .i64 k], .int .i64 d] w (Int2R w (menuL L rs cs m f k d)) := by
  have HM := hid (show menuL L rs cs m f k d = (0, checkC L rs cs [(m, f, k)]) by rw [menuL, if_pos hz])
  have hz' : (checkC L rs cs [(m, f, k)] != 0) = true := by simp [hz]
  clear hz
  refine (callsIn_wide (n := 0)).1 ?_
  refine callsIn_of_wp_marks Try.func18 rfl trivial ?_ rfl
  simp only [Try.ntmps18, List.size_toArray, List.length_cons, List.length_nil, Nat.reduceAdd, Nat.reduceSub, Array.replicate_succ, Array.replicate_zero, List.push_toArray, List.append_toArray, List.nil_append, List.cons_append]
  gi_wp2_with fail
  obtain ⟨wq, hwq⟩ : ∃ wq, (((((w.alloc (.cells #[.int .i64 L, .slice ra rs.length rc, .slice ca cs.length cc] 24)).alloc (.cells #[.int .i64 m, .int .i64 f, .int .i64 k] 38)).alloc (.cells #[.int .i64 d] 3)).alloc (.cells #[.int .i64 0] 3)).alloc (.cells #[.int .i64 0] 29)).alloc (.cells #[.int .i64 m, .int .i64 f, .int .i64 k] 38) = wq := ⟨_, rfl⟩
  have q1 : Below w.heap.size w wq := by
    rw [← hwq]
    repeat (first | exact Below.refl _ _ | refine Below.alloc ?_ (by simp <;> omega) _)
  have hsz : wq.heap.size = w.heap.size + 1 + 1 + 1 + 1 + 1 + 1 := by rw [← hwq]; simp
  have b0 : wq.cell? ⟨w.heap.size, 0, none⟩ = some (.int .i64 L) := by rw [← hwq]; clear hwq; go_simp
  have b1 : wq.cell? ⟨w.heap.size, 1, none⟩ = some (.slice ra rs.length rc) := by rw [← hwq]; clear hwq; go_simp
  have b2 : wq.cell? ⟨w.heap.size, 2, none⟩ = some (.slice ca cs.length cc) := by rw [← hwq]; clear hwq; go_simp
  have g0 : wq.cell? ⟨w.heap.size + 1, 0, none⟩ = some (.int .i64 m) := by rw [← hwq]; clear hwq; go_simp
  have g1 : wq.cell? ⟨w.heap.size + 1, 1, none⟩ = some (.int .i64 f) := by rw [← hwq]; clear hwq; go_simp
  have g2 : wq.cell? ⟨w.heap.size + 1, 2, none⟩ = some (.int .i64 k) := by rw [← hwq]; clear hwq; go_simp
  have g3 : wq.cell? ⟨w.heap.size + 1 + 1, 0, none⟩ = some (.int .i64 d) := by rw [← hwq]; clear hwq; go_simp
  have r0 : wq.cell? ⟨w.heap.size + 1 + 1 + 1, 0, none⟩ = some (.int .i64 0) := by rw [← hwq]; clear hwq; go_simp
  have r1 : wq.cell? ⟨w.heap.size + 1 + 1 + 1 + 1, 0, none⟩ = some (.int .i64 0) := by rw [← hwq]; clear hwq; go_simp
  have f0 : wq.frozen? ⟨w.heap.size + 1 + 1 + 1, 0, none⟩ = false := by rw [← hwq]; clear hwq; go_simp
  have f1 : wq.frozen? ⟨w.heap.size + 1 + 1 + 1 + 1, 0, none⟩ = false := by rw [← hwq]; clear hwq; go_simp
  have hcy : Cycles wq (some ⟨w.heap.size + 1 + 1 + 1 + 1 + 1, 0, none⟩) [(m, f, k)] := by
    refine ⟨by simp, .inr ⟨_, _, rfl, fun i hi => ?_⟩⟩
    obtain rfl : i = 0 := by simp at hi; omega
    refine ⟨?_, ?_, ?_⟩ <;> (rw [← hwq]; clear hwq; go_simp)
  rw [hwq]
  clear hwq
  have hT := h.below q1
  refine ⟨trivial, rfl, ?_⟩
  refine (callsIn_wide.2 (check_any L ra rs rc ca cs cc _ [(m, f, k)] _ _ hT hcy)).mono ?_
  rintro e w1 ⟨hb, rfl⟩
  have p1 := q1.trans (hb.mono (by omega))
  have hs1 := hb.size
  rw [← hb.cell (by simp; omega)] at b0 b1 b2 g0 g1 g2 g3 r0 r1
  rw [← hb.frozen (by simp; omega)] at f0 f1
  gi_wp2
  refine ⟨.tuple #[.int .i64 0, .int .i64 (checkC L rs cs [(m, f, k)])], ?_, ?_, by rw [HM.out]⟩
  · have t1 := World.cell?_setCell_same' (w1.setCell ⟨w.heap.size + 1 + 1 + 1, 0, none⟩ (.int .i64 0)) ⟨w.heap.size + 1 + 1 + 1 + 1, 0, none⟩ (.int .i64 (checkC L rs cs [(m, f, k)])) (by go_simp)
    have t0 := World.cell?_setCell_same' w1 ⟨w.heap.size + 1 + 1 + 1, 0, none⟩ (.int .i64 0) (by rw [r0]; rfl)
    simp [results, Try.f18, go_sem, t0, t1]
  · exact (p1.setCell (by simp <;> omega) _).setCell (by simp <;> omega) _

set_option maxRecDepth 100000 in
set_option maxHeartbeats 2000000 in
theorem menu_err2 (L : Int) (ra : Option Addr) (rs : List Int) (rc : Nat) (ca : Option Addr) (cs : List Int) (cc : Nat) (m f k d : Int) (w : World) (h : TermAt w L ra rs ca cs)
  (hy : checkC L rs cs [(m, f, k)] = 0) (hz : checkD L rs cs d ≠ 0) :
  Calls Try.prog 18 #[.agg #[.int .i64 L, .slice ra rs.length rc, .slice ca cs.length cc], .agg #[.int .i64 m, .int .i64 f, .int .i64 k], .int .i64 d] w (Int2R w (menuL L rs cs m f k d)) := by
  have HM := hid (show menuL L rs cs m f k d = (0, checkD L rs cs d) by rw [menuL, if_neg (by simp [hy]), if_pos hz])
  have hz' : (checkD L rs cs d != 0) = true := by simp [hz]
  have HY := hid hy
  clear hz hy
  refine (callsIn_wide (n := 0)).1 ?_
  refine callsIn_of_wp_marks Try.func18 rfl trivial ?_ rfl
  simp only [Try.ntmps18, List.size_toArray, List.length_cons, List.length_nil, Nat.reduceAdd, Nat.reduceSub, Array.replicate_succ, Array.replicate_zero, List.push_toArray, List.append_toArray, List.nil_append, List.cons_append]
  gi_wp2_with fail
  obtain ⟨wq, hwq⟩ : ∃ wq, (((((w.alloc (.cells #[.int .i64 L, .slice ra rs.length rc, .slice ca cs.length cc] 24)).alloc (.cells #[.int .i64 m, .int .i64 f, .int .i64 k] 38)).alloc (.cells #[.int .i64 d] 3)).alloc (.cells #[.int .i64 0] 3)).alloc (.cells #[.int .i64 0] 29)).alloc (.cells #[.int .i64 m, .int .i64 f, .int .i64 k] 38) = wq := ⟨_, rfl⟩
  have q1 : Below w.heap.size w wq := by
    rw [← hwq]
    repeat (first | exact Below.refl _ _ | refine Below.alloc ?_ (by simp <;> omega) _)
  have hsz : wq.heap.size = w.heap.size + 1 + 1 + 1 + 1 + 1 + 1 := by rw [← hwq]; simp
  have b0 : wq.cell? ⟨w.heap.size, 0, none⟩ = some (.int .i64 L) := by rw [← hwq]; clear hwq; go_simp
  have b1 : wq.cell? ⟨w.heap.size, 1, none⟩ = some (.slice ra rs.length rc) := by rw [← hwq]; clear hwq; go_simp
  have b2 : wq.cell? ⟨w.heap.size, 2, none⟩ = some (.slice ca cs.length cc) := by rw [← hwq]; clear hwq; go_simp
  have g0 : wq.cell? ⟨w.heap.size + 1, 0, none⟩ = some (.int .i64 m) := by rw [← hwq]; clear hwq; go_simp
  have g1 : wq.cell? ⟨w.heap.size + 1, 1, none⟩ = some (.int .i64 f) := by rw [← hwq]; clear hwq; go_simp
  have g2 : wq.cell? ⟨w.heap.size + 1, 2, none⟩ = some (.int .i64 k) := by rw [← hwq]; clear hwq; go_simp
  have g3 : wq.cell? ⟨w.heap.size + 1 + 1, 0, none⟩ = some (.int .i64 d) := by rw [← hwq]; clear hwq; go_simp
  have r0 : wq.cell? ⟨w.heap.size + 1 + 1 + 1, 0, none⟩ = some (.int .i64 0) := by rw [← hwq]; clear hwq; go_simp
  have r1 : wq.cell? ⟨w.heap.size + 1 + 1 + 1 + 1, 0, none⟩ = some (.int .i64 0) := by rw [← hwq]; clear hwq; go_simp
  have f0 : wq.frozen? ⟨w.heap.size + 1 + 1 + 1, 0, none⟩ = false := by rw [← hwq]; clear hwq; go_simp
  have f1 : wq.frozen? ⟨w.heap.size + 1 + 1 + 1 + 1, 0, none⟩ = false := by rw [← hwq]; clear hwq; go_simp
  have hcy : Cycles wq (some ⟨w.heap.size + 1 + 1 + 1 + 1 + 1, 0, none⟩) [(m, f, k)] := by
    refine ⟨by simp, .inr ⟨_, _, rfl, fun i hi => ?_⟩⟩
    obtain rfl : i = 0 := by simp at hi; omega
    refine ⟨?_, ?_, ?_⟩ <;> (rw [← hwq]; clear hwq; go_simp)
  rw [hwq]
  clear hwq
  have hT := h.below q1
  refine ⟨trivial, rfl, ?_⟩
  refine (callsIn_wide.2 (check_any L ra rs rc ca cs cc _ [(m, f, k)] _ _ hT hcy)).mono ?_
  rintro e w1 ⟨hb, rfl⟩
  have p1 := q1.trans (hb.mono (by omega))
  have hs1 := hb.size
  rw [← hb.cell (by simp; omega)] at b0 b1 b2 g0 g1 g2 g3 r0 r1
  rw [← hb.frozen (by simp; omega)] at f0 f1
  rw [HY.out]
  gi_wp2_with fail
  refine ⟨trivial, rfl, ?_⟩
  refine (callsIn_wide.2 (checkDay_any L ra rs rc ca cs cc d _ (h.below p1))).mono ?_
  rintro e w2 ⟨hb2, rfl⟩
  have p2 := p1.trans (hb2.mono (by omega))
  have hs2 := hb2.size
  rw [← hb2.cell (by simp; omega)] at b0 b1 b2 g0 g1 g2 g3 r0 r1
  rw [← hb2.frozen (by simp; omega)] at f0 f1
  gi_wp2
  refine ⟨.tuple #[.int .i64 0, .int .i64 (checkD L rs cs d)], ?_, ?_, by rw [HM.out]⟩
  · have t1 := World.cell?_setCell_same' (w2.setCell ⟨w.heap.size + 1 + 1 + 1, 0, none⟩ (.int .i64 0)) ⟨w.heap.size + 1 + 1 + 1 + 1, 0, none⟩ (.int .i64 (checkD L rs cs d)) (by go_simp)
    have t0 := World.cell?_setCell_same' w2 ⟨w.heap.size + 1 + 1 + 1, 0, none⟩ (.int .i64 0) (by rw [r0]; rfl)
    simp [results, Try.f18, go_sem, t0, t1]
  · exact (p2.setCell (by simp <;> omega) _).setCell (by simp <;> omega) _

set_option maxRecDepth 100000 in
set_option maxHeartbeats 2000000 in
theorem menu_ok (L : Int) (ra : Option Addr) (rs : List Int) (rc : Nat) (ca : Option Addr) (cs : List Int) (cc : Nat) (m f k d : Int) (w : World) (h : TermAt w L ra rs ca cs)
  (hy : checkC L rs cs [(m, f, k)] = 0) (hz : checkD L rs cs d = 0) :
  Calls Try.prog 18 #[.agg #[.int .i64 L, .slice ra rs.length rc, .slice ca cs.length cc], .agg #[.int .i64 m, .int .i64 f, .int .i64 k], .int .i64 d] w (Int2R w (menuL L rs cs m f k d)) := by
  have HM := hid (show menuL L rs cs m f k d = findR (findD d (mdays L rs cs m f k)) by rw [menuL, if_neg (by simp [hy]), if_neg (by simp [hz])])
  have HZ := hid hz
  have HY := hid hy
  clear hz hy
  refine (callsIn_wide (n := 0)).1 ?_
  refine callsIn_of_wp_marks Try.func18 rfl trivial ?_ rfl
  simp only [Try.ntmps18, List.size_toArray, List.length_cons, List.length_nil, Nat.reduceAdd, Nat.reduceSub, Array.replicate_succ, Array.replicate_zero, List.push_toArray, List.append_toArray, List.nil_append, List.cons_append]
  gi_wp2_with fail
  obtain ⟨wq, hwq⟩ : ∃ wq, (((((w.alloc (.cells #[.int .i64 L, .slice ra rs.length rc, .slice ca cs.length cc] 24)).alloc (.cells #[.int .i64 m, .int .i64 f, .int .i64 k] 38)).alloc (.cells #[.int .i64 d] 3)).alloc (.cells #[.int .i64 0] 3)).alloc (.cells #[.int .i64 0] 29)).alloc (.cells #[.int .i64 m, .int .i64 f, .int .i64 k] 38) = wq := ⟨_, rfl⟩
  have q1 : Below w.heap.size w wq := by
    rw [← hwq]
    repeat (first | exact Below.refl _ _ | refine Below.alloc ?_ (by simp <;> omega) _)
  have hsz : wq.heap.size = w.heap.size + 1 + 1 + 1 + 1 + 1 + 1 := by rw [← hwq]; simp
  have b0 : wq.cell? ⟨w.heap.size, 0, none⟩ = some (.int .i64 L) := by rw [← hwq]; clear hwq; go_simp
  have b1 : wq.cell? ⟨w.heap.size, 1, none⟩ = some (.slice ra rs.length rc) := by rw [← hwq]; clear hwq; go_simp
  have b2 : wq.cell? ⟨w.heap.size, 2, none⟩ = some (.slice ca cs.length cc) := by rw [← hwq]; clear hwq; go_simp
  have g0 : wq.cell? ⟨w.heap.size + 1, 0, none⟩ = some (.int .i64 m) := by rw [← hwq]; clear hwq; go_simp
  have g1 : wq.cell? ⟨w.heap.size + 1, 1, none⟩ = some (.int .i64 f) := by rw [← hwq]; clear hwq; go_simp
  have g2 : wq.cell? ⟨w.heap.size + 1, 2, none⟩ = some (.int .i64 k) := by rw [← hwq]; clear hwq; go_simp
  have g3 : wq.cell? ⟨w.heap.size + 1 + 1, 0, none⟩ = some (.int .i64 d) := by rw [← hwq]; clear hwq; go_simp
  have r0 : wq.cell? ⟨w.heap.size + 1 + 1 + 1, 0, none⟩ = some (.int .i64 0) := by rw [← hwq]; clear hwq; go_simp
  have r1 : wq.cell? ⟨w.heap.size + 1 + 1 + 1 + 1, 0, none⟩ = some (.int .i64 0) := by rw [← hwq]; clear hwq; go_simp
  have f0 : wq.frozen? ⟨w.heap.size + 1 + 1 + 1, 0, none⟩ = false := by rw [← hwq]; clear hwq; go_simp
  have f1 : wq.frozen? ⟨w.heap.size + 1 + 1 + 1 + 1, 0, none⟩ = false := by rw [← hwq]; clear hwq; go_simp
  have hcy : Cycles wq (some ⟨w.heap.size + 1 + 1 + 1 + 1 + 1, 0, none⟩) [(m, f, k)] := by
    refine ⟨by simp, .inr ⟨_, _, rfl, fun i hi => ?_⟩⟩
    obtain rfl : i = 0 := by simp at hi; omega
    refine ⟨?_, ?_, ?_⟩ <;> (rw [← hwq]; clear hwq; go_simp)
  rw [hwq]
  clear hwq
  have hT := h.below q1
  refine ⟨trivial, rfl, ?_⟩
  refine (callsIn_wide.2 (check_any L ra rs rc ca cs cc _ [(m, f, k)] _ _ hT hcy)).mono ?_
  rintro e w1 ⟨hb, rfl⟩
  have p1 := q1.trans (hb.mono (by omega))
  have hs1 := hb.size
  rw [← hb.cell (by simp; omega)] at b0 b1 b2 g0 g1 g2 g3 r0 r1
  rw [← hb.frozen (by simp; omega)] at f0 f1
  rw [HY.out]
  gi_wp2_with fail
  refine ⟨trivial, rfl, ?_⟩
  refine (callsIn_wide.2 (checkDay_any L ra rs rc ca cs cc d _ (h.below p1))).mono ?_
  rintro e w2 ⟨hb2, rfl⟩
  have p2 := p1.trans (hb2.mono (by omega))
  have hs2 := hb2.size
  rw [← hb2.cell (by simp; omega)] at b0 b1 b2 g0 g1 g2 g3 r0 r1
  rw [← hb2.frozen (by simp; omega)] at f0 f1
  rw [HZ.out]
  gi_wp2_with fail
  refine ⟨trivial, rfl, ?_⟩
  refine (callsIn_wide.2 (menus_any _ _ _ _ _ _ _)).mono ?_
  rintro e w3 ⟨hw3, rfl⟩
  have hb3 : Below w2.heap.size w2 w3 := by rw [← hw3]; exact ((Below.refl _ _).alloc (Nat.le_refl _) _).alloc (by simp) _
  have z0 : w3.cell? ⟨w2.heap.size, 0, none⟩ = some (.int .i64 L) := by rw [← hw3]; clear hw3; go_simp
  have z1 : w3.cell? ⟨w2.heap.size, 1, none⟩ = some (.slice ra rs.length rc) := by rw [← hw3]; clear hw3; go_simp
  have z2 : w3.cell? ⟨w2.heap.size, 2, none⟩ = some (.slice ca cs.length cc) := by rw [← hw3]; clear hw3; go_simp
  have y0 : w3.cell? ⟨w2.heap.size + 1, 0, none⟩ = some (.int .i64 m) := by rw [← hw3]; clear hw3; go_simp
  have y1 : w3.cell? ⟨w2.heap.size + 1, 1, none⟩ = some (.int .i64 f) := by rw [← hw3]; clear hw3; go_simp
  have y2 : w3.cell? ⟨w2.heap.size + 1, 2, none⟩ = some (.int .i64 k) := by rw [← hw3]; clear hw3; go_simp
  have hs3 : w3.heap.size = w2.heap.size + 1 + 1 := by rw [← hw3]; simp
  clear hw3
  have p3 := p2.trans (hb3.mono (by omega))
  rw [← hb3.cell (by simp; omega)] at g3 r0 r1
  rw [← hb3.frozen (by simp; omega)] at f0 f1
  obtain ⟨hv, hvc⟩ := checkC_zero HY.out
  gi_wp2_with fail
  refine wpIn_range (gf := 64) (lb := #[.pointer (some ⟨w2.heap.size + 1, 0, none⟩), .pointer (some ⟨w2.heap.size, 0, none⟩)]) rfl (enters_of Try.func64 (by kernel_rfl) rfl)
    (menus_iter L ra rs rc ca cs cc m f k (w2.heap.size + 1) w2.heap.size w w3 h hv hvc (by omega) (by omega) (fun b hlt => p3.block b hlt) z0 z1 z2 y0 y1 y2)
    (fun b hh => by omega) (fun b _ => rfl) (fun _ => rfl)
    (fun pre W1 => findD d pre = none ∧ W1.cell? ⟨w.heap.size + 1 + 1, 0, none⟩ = some (.int .i64 d) ∧ W1.cell? ⟨w.heap.size + 1 + 1 + 1, 0, none⟩ = some (.int .i64 0) ∧ W1.cell? ⟨w.heap.size + 1 + 1 + 1 + 1, 0, none⟩ = some (.int .i64 0) ∧
      W1.frozen? ⟨w.heap.size + 1 + 1 + 1, 0, none⟩ = false ∧ W1.frozen? ⟨w.heap.size + 1 + 1 + 1 + 1, 0, none⟩ = false ∧ Below w.heap.size w W1)
    (fun c pre W1 => c = .ret ∧ ∃ v, findD d pre = some v ∧ W1.cell? ⟨w.heap.size + 1 + 1 + 1, 0, none⟩ = some (.int .i64 v) ∧ W1.cell? ⟨w.heap.size + 1 + 1 + 1 + 1, 0, none⟩ = some (.int .i64 0) ∧ Below w.heap.size w W1) ?hI ?hIx ?h0 ?round ?done ?stop
  case hI =>
    rintro p A B ⟨i0, i1, i2, i3, i4, i5, i6⟩ hK
    exact ⟨i0, hK.cell i1 (by simp; omega), hK.cell i2 (by simp; omega), hK.cell i3 (by simp; omega), by rw [hK.frozen (cell_lt i2) (by simp; omega)]; exact i4, by rw [hK.frozen (cell_lt i3) (by simp; omega)]; exact i5, i6.trans (hK.below i6.size (fun b hb hh => by have : w3.heap.size ≤ b := hh; omega))⟩
  case hIx =>
    rintro c p A B ⟨hc, v, i0, i1, i2, i6⟩ hK
    exact ⟨hc, v, i0, hK.cell i1 (by simp; omega), hK.cell i2 (by simp; omega), i6.trans (hK.below i6.size (fun b hb hh => by have : w3.heap.size ≤ b := hh; omega))⟩
  case h0 => exact ⟨rfl, g3, r0, r1, f0, f1, p3⟩
  case round =>
    rintro l pre ⟨e, v⟩ W1 hsuf hs4 ⟨i0, i1, i2, i3, i4, i5, i6⟩ Wa K hK
    by_cases he : e = d
    · subst he
      have HQ := hid (findD_snoc_yes e pre v i0)
      clear i0
      gi_wp2
      refine ⟨((Keeps.refl _ W1).setCell (.inl ⟨by simp; omega, by simp; omega⟩) _).setCell (.inl ⟨by simp; omega, by simp; omega⟩) _, rfl, v, HQ.out, ?_, ?_, (i6.setCell (by simp <;> omega) _).setCell (by simp <;> omega) _⟩
      · go_simp
      · exact World.cell?_setCell_same' _ _ _ (by go_simp)
    · have he' : (e == d) = false := by simp [he]
      have HQ := hid (findD_snoc_no d e pre v i0 he)
      clear i0 he
      gi_wp2
      exact ⟨Keeps.refl _ W1, HQ.out, i1, i2, i3, i4, i5, i6⟩
  case done =>
    rintro W1 hs4 ⟨i0, i1, i2, i3, i4, i5, i6⟩ hD
    have HQ := hid i0
    clear i0
    gi_wp2
    have hD' := heap_set2 hD ⟨w.heap.size + 1 + 1 + 1, 0, none⟩ ⟨w.heap.size + 1 + 1 + 1 + 1, 0, none⟩ (.int .i64 0) (.int .i64 13) (by simp; omega) (by simp; omega)
    refine ⟨by simp, .inl ⟨_, _, rfl, run_takeDeferred hD', ?_⟩⟩
    have t1 := World.cell?_setCell_same' (W1.setCell ⟨w.heap.size + 1 + 1 + 1, 0, none⟩ (.int .i64 0)) ⟨w.heap.size + 1 + 1 + 1 + 1, 0, none⟩ (.int .i64 13) (by go_simp)
    have t0 : ((W1.setCell ⟨w.heap.size + 1 + 1 + 1, 0, none⟩ (.int .i64 0)).setCell ⟨w.heap.size + 1 + 1 + 1 + 1, 0, none⟩ (.int .i64 13)).cell? ⟨w.heap.size + 1 + 1 + 1, 0, none⟩ = some (.int .i64 0) := by go_simp
    have s1 := putObj_cell t1 (D := w3.heap.size) (by simp; omega) (.deferred none)
    have s0 := putObj_cell t0 (D := w3.heap.size) (by simp; omega) (.deferred none)
    refine ⟨.tuple #[.int .i64 0, .int .i64 13], ?_, ?_, ?_⟩
    · simp [results, Try.f18, go_sem, s0, s1]
    · exact ((i6.setCell (by simp <;> omega) _).setCell (by simp <;> omega) _).trans (putObj_below (by omega) _)
    · rw [HM.out, mdays, HQ.out]; rfl
  case stop =>
    rintro c pre W1 hs4 hpre ⟨rfl, v, i0, i1, i2, i6⟩ hD
    have HQ := hid (findD_prefix d _ _ v i0 hpre)
    clear i0
    gi_wp2
    refine ⟨by simp, .inl ⟨_, _, rfl, run_takeDeferred hD, ?_⟩⟩
    have s1 := putObj_cell i2 (D := w3.heap.size) (by simp; omega) (.deferred none)
    have s0 := putObj_cell i1 (D := w3.heap.size) (by simp; omega) (.deferred none)
    refine ⟨.tuple #[.int .i64 v, .int .i64 0], ?_, ?_, ?_⟩
    · simp [results, Try.f18, go_sem, s0, s1]
    · exact i6.trans (putObj_below (by omega) _)
    · rw [HM.out, mdays, HQ.out]; rfl

theorem menu_any (L : Int) (ra : Option Addr) (rs : List Int) (rc : Nat) (ca : Option Addr) (cs : List Int) (cc : Nat) (m f k d : Int) (w : World) (h : TermAt w L ra rs ca cs) :
  Calls Try.prog 18 #[.agg #[.int .i64 L, .slice ra rs.length rc, .slice ca cs.length cc], .agg #[.int .i64 m, .int .i64 f, .int .i64 k], .int .i64 d] w (Int2R w (menuL L rs cs m f k d)) := by
  by_cases h1 : checkC L rs cs [(m, f, k)] = 0
  · by_cases h2 : checkD L rs cs d = 0
    · exact menu_ok L ra rs rc ca cs cc m f k d w h h1 h2
    · exact menu_err2 L ra rs rc ca cs cc m f k d w h h1 h2
  · exact menu_err1 L ra rs rc ca cs cc m f k d w h h1

end Go.Proofs.Ytilolaednbcaoaa
