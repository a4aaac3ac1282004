/- The Go functions IsOpen, Next and Nth of package term. -/
import Derived.Test.YtilolaednbcaoaaMenu
import Derived.Test.YtilolaednbcaoaaOpensM
set_option linter.unusedVariables false
namespace Go.Proofs.Ytilolaednbcaoaa
open Go.RowKit Go.Shelf

attribute [local go_sem] Oper.semAt_some

def BIR (w : World) (p : Bool × Int) (en : Ending) (w' : World) : Prop := Below w.heap.size w w' ∧ en = .returned (.tuple #[.bool p.1, .int .i64 p.2])

set_option maxRecDepth 100000 in
set_option maxHeartbeats 2000000 in
theorem isOpen_err (L : Int) (ra : Option Addr) (rs : List Int) (rc : Nat) (ca : Option Addr) (cs : List Int) (cc : Nat) (d : Int) (w : World) (h : TermAt w L ra rs ca cs) (hz : checkD L rs cs d ≠ 0) :
  Calls Try.prog 17 #[.agg #[.int .i64 L, .slice ra rs.length rc, .slice ca cs.length cc], .int .i64 d] w (BIR w (openL L rs cs d)) := by
  have HM := hid (show openL L rs cs d = (false, checkD L rs cs d) by rw [openL, if_pos hz])
  have hz' : (checkD L rs cs d != 0) = true := by simp [hz]
  clear hz
  refine (callsIn_wide (n := 0)).1 ?_
  refine callsIn_of_wp_marks Try.func17 rfl trivial ?_ rfl
  simp only [Try.ntmps17, List.size_toArray, List.length_cons, List.length_nil, Nat.reduceAdd, Nat.reduceSub, Array.replicate_succ, Array.replicate_zero, List.push_toArray, List.append_toArray, List.nil_append, List.cons_append]
  gi_wp2_with fail
  obtain ⟨wq, hwq⟩ : ∃ wq, ((((w.alloc (.cells #[.int .i64 L, .slice ra rs.length rc, .slice ca cs.length cc] 24)).alloc (.cells #[.int .i64 d] 3)).alloc (.cells #[.bool false] 4)).alloc (.cells #[.int .i64 0] 29)) = wq := ⟨_, rfl⟩
  have q1 : Below w.heap.size w wq := by
    rw [← hwq]
    repeat (first | exact Below.refl _ _ | refine Below.alloc ?_ (by simp <;> omega) _)
  have hsz : wq.heap.size = w.heap.size + 1 + 1 + 1 + 1 := by rw [← hwq]; simp
  have b0 : wq.cell? ⟨w.heap.size, 0, none⟩ = some (.int .i64 L) := by rw [← hwq]; clear hwq; go_simp
  have b1 : wq.cell? ⟨w.heap.size, 1, none⟩ = some (.slice ra rs.length rc) := by rw [← hwq]; clear hwq; go_simp
  have b2 : wq.cell? ⟨w.heap.size, 2, none⟩ = some (.slice ca cs.length cc) := by rw [← hwq]; clear hwq; go_simp
  have g3 : wq.cell? ⟨w.heap.size + 1, 0, none⟩ = some (.int .i64 d) := by rw [← hwq]; clear hwq; go_simp
  have r0 : wq.cell? ⟨w.heap.size + 1 + 1, 0, none⟩ = some (.bool false) := by rw [← hwq]; clear hwq; go_simp
  have r1 : wq.cell? ⟨w.heap.size + 1 + 1 + 1, 0, none⟩ = some (.int .i64 0) := by rw [← hwq]; clear hwq; go_simp
  have f0 : wq.frozen? ⟨w.heap.size + 1 + 1, 0, none⟩ = false := by rw [← hwq]; clear hwq; go_simp
  have f1 : wq.frozen? ⟨w.heap.size + 1 + 1 + 1, 0, none⟩ = false := by rw [← hwq]; clear hwq; go_simp
  rw [hwq]
  clear hwq
  have hT := h.below q1
  refine ⟨trivial, rfl, ?_⟩
  refine (callsIn_wide.2 (checkDay_any L ra rs rc ca cs cc d _ hT)).mono ?_
  rintro e w1 ⟨hb, rfl⟩
  have p1 := q1.trans (hb.mono (by omega))
  have hs1 := hb.size
  rw [← hb.cell (by simp; omega)] at b0 b1 b2 g3 r0 r1
  rw [← hb.frozen (by simp; omega)] at f0 f1
  gi_wp2
  refine ⟨.tuple #[.bool false, .int .i64 (checkD L rs cs d)], ?_, ?_, by rw [HM.out]⟩
  · have t1 := World.cell?_setCell_same' (w1.setCell ⟨w.heap.size + 1 + 1, 0, none⟩ (.bool false)) ⟨w.heap.size + 1 + 1 + 1, 0, none⟩ (.int .i64 (checkD L rs cs d)) (by go_simp)
    have t0 := World.cell?_setCell_same' w1 ⟨w.heap.size + 1 + 1, 0, none⟩ (.bool false) (by rw [r0]; rfl)
    simp [results, Try.f17, go_sem, t0, t1]
  · exact (p1.setCell (by simp <;> omega) _).setCell (by simp <;> omega) _

set_option maxRecDepth 100000 in
set_option maxHeartbeats 2000000 in
theorem isOpen_ok (L : Int) (ra : Option Addr) (rs : List Int) (rc : Nat) (ca : Option Addr) (cs : List Int) (cc : Nat) (d : Int) (w : World) (h : TermAt w L ra rs ca cs) (hz : checkD L rs cs d = 0) (hv : validT L rs cs = 0) :
  Calls Try.prog 17 #[.agg #[.int .i64 L, .slice ra rs.length rc, .slice ca cs.length cc], .int .i64 d] w (BIR w (openL L rs cs d)) := by
  have HM := hid (show openL L rs cs d = openLR (sdl (wd rs cs L.toNat)) d by rw [openL, if_neg (by simp [hz])])
  have HZ := hid hz
  clear hz
  refine (callsIn_wide (n := 0)).1 ?_
  refine callsIn_of_wp_marks Try.func17 rfl trivial ?_ rfl
  simp only [Try.ntmps17, List.size_toArray, List.length_cons, List.length_nil, Nat.reduceAdd, Nat.reduceSub, Array.replicate_succ, Array.replicate_zero, List.push_toArray, List.append_toArray, List.nil_append, List.cons_append]
  gi_wp2_with fail
  obtain ⟨wq, hwq⟩ : ∃ wq, ((((w.alloc (.cells #[.int .i64 L, .slice ra rs.length rc, .slice ca cs.length cc] 24)).alloc (.cells #[.int .i64 d] 3)).alloc (.cells #[.bool false] 4)).alloc (.cells #[.int .i64 0] 29)) = wq := ⟨_, rfl⟩
  have q1 : Below w.heap.size w wq := by
    rw [← hwq]
    repeat (first | exact Below.refl _ _ | refine Below.alloc ?_ (by simp <;> omega) _)
  have hsz : wq.heap.size = w.heap.size + 1 + 1 + 1 + 1 := by rw [← hwq]; simp
  have b0 : wq.cell? ⟨w.heap.size, 0, none⟩ = some (.int .i64 L) := by rw [← hwq]; clear hwq; go_simp
  have b1 : wq.cell? ⟨w.heap.size, 1, none⟩ = some (.slice ra rs.length rc) := by rw [← hwq]; clear hwq; go_simp
  have b2 : wq.cell? ⟨w.heap.size, 2, none⟩ = some (.slice ca cs.length cc) := by rw [← hwq]; clear hwq; go_simp
  have g3 : wq.cell? ⟨w.heap.size + 1, 0, none⟩ = some (.int .i64 d) := by rw [← hwq]; clear hwq; go_simp
  have r0 : wq.cell? ⟨w.heap.size + 1 + 1, 0, none⟩ = some (.bool false) := by rw [← hwq]; clear hwq; go_simp
  have r1 : wq.cell? ⟨w.heap.size + 1 + 1 + 1, 0, none⟩ = some (.int .i64 0) := by rw [← hwq]; clear hwq; go_simp
  have f0 : wq.frozen? ⟨w.heap.size + 1 + 1, 0, none⟩ = false := by rw [← hwq]; clear hwq; go_simp
  have f1 : wq.frozen? ⟨w.heap.size + 1 + 1 + 1, 0, none⟩ = false := by rw [← hwq]; clear hwq; go_simp
  rw [hwq]
  clear hwq
  have hT := h.below q1
  refine ⟨trivial, rfl, ?_⟩
  refine (callsIn_wide.2 (checkDay_any L ra rs rc ca cs cc d _ hT)).mono ?_
  rintro e w1 ⟨hb, rfl⟩
  have p1 := q1.trans (hb.mono (by omega))
  have hs1 := hb.size
  rw [← hb.cell (by simp; omega)] at b0 b1 b2 g3 r0 r1
  rw [← hb.frozen (by simp; omega)] at f0 f1
  rw [HZ.out]
  gi_wp2_with fail
  refine ⟨trivial, rfl, ?_⟩
  refine (callsIn_wide.2 (schoolDays_any _ _ _ _)).mono ?_
  rintro e w3 ⟨hw3, rfl⟩
  have hb3 : Below w1.heap.size w1 w3 := by rw [← hw3]; exact (Below.refl _ _).alloc (Nat.le_refl _) _
  have z0 : w3.cell? ⟨w1.heap.size, 0, none⟩ = some (.int .i64 L) := by rw [← hw3]; clear hw3; go_simp
  have z1 : w3.cell? ⟨w1.heap.size, 1, none⟩ = some (.slice ra rs.length rc) := by rw [← hw3]; clear hw3; go_simp
  have z2 : w3.cell? ⟨w1.heap.size, 2, none⟩ = some (.slice ca cs.length cc) := by rw [← hw3]; clear hw3; go_simp
  have hs3 : w3.heap.size = w1.heap.size + 1 := by rw [← hw3]; simp
  clear hw3
  have p3 := p1.trans (hb3.mono (by omega))
  rw [← hb3.cell (by simp; omega)] at g3 r0 r1
  rw [← hb3.frozen (by simp; omega)] at f0 f1
  gi_wp2_with fail
  refine wpIn_range (gf := 62) (lb := #[.pointer (some ⟨w1.heap.size, 0, none⟩)]) rfl (enters_of Try.func62 (by kernel_rfl) rfl)
    (schoolDays_iter L ra rs rc ca cs cc w1.heap.size w w3 h hv (by omega) (fun b hlt => p3.block b hlt) z0 z1 z2)
    (fun b hh => by omega) (fun b _ => rfl) (fun _ => rfl)
    (fun pre W1 => openLI pre d ∧ W1.cell? ⟨w.heap.size + 1, 0, none⟩ = some (.int .i64 d) ∧ W1.cell? ⟨w.heap.size + 1 + 1, 0, none⟩ = some (.bool false) ∧ W1.cell? ⟨w.heap.size + 1 + 1 + 1, 0, none⟩ = some (.int .i64 0) ∧
      W1.frozen? ⟨w.heap.size + 1 + 1, 0, none⟩ = false ∧ W1.frozen? ⟨w.heap.size + 1 + 1 + 1, 0, none⟩ = false ∧ Below w.heap.size w W1)
    (fun c pre W1 => c = .ret ∧ ∃ v, openLH pre d v ∧ W1.cell? ⟨w.heap.size + 1 + 1, 0, none⟩ = some (.bool v) ∧ W1.cell? ⟨w.heap.size + 1 + 1 + 1, 0, none⟩ = some (.int .i64 0) ∧ Below w.heap.size w W1) ?hI ?hIx ?h0 ?round ?done ?stop
  case hI =>
    rintro p A B ⟨i0, i1, i2, i3, i4, i5, i6⟩ hK
    exact ⟨i0, hK.cell i1 (by simp; omega), hK.cell i2 (by simp; omega), hK.cell i3 (by simp; omega), by rw [hK.frozen (cell_lt i2) (by simp; omega)]; exact i4, by rw [hK.frozen (cell_lt i3) (by simp; omega)]; exact i5, i6.trans (hK.below i6.size (fun b hb hh => by have : w3.heap.size ≤ b := hh; omega))⟩
  case hIx =>
    rintro c p A B ⟨hc, v, i0, i1, i2, i6⟩ hK
    exact ⟨hc, v, i0, hK.cell i1 (by simp; omega), hK.cell i2 (by simp; omega), i6.trans (hK.below i6.size (fun b hb hh => by have : w3.heap.size ≤ b := hh; omega))⟩
  case h0 => exact ⟨openLI_nil d, g3, r0, r1, f0, f1, p3⟩
  case round =>
    rintro l pre x W1 hsuf hs4 ⟨i0, i1, i2, i3, i4, i5, i6⟩ Wa K hK
    by_cases he : x = d
    · have he' : (x == d) = true := by simp [he]
      have HQ := hid (openLH_snoc pre d x i0 he)
      have HX := hid he
      clear i0 he
      gi_wp2
      refine ⟨((Keeps.refl _ W1).setCell (.inl ⟨by simp; omega, by simp; omega⟩) _).setCell (.inl ⟨by simp; omega, by simp; omega⟩) _, rfl, true, HQ.out, ?_, ?_, (i6.setCell (by simp <;> omega) _).setCell (by simp <;> omega) _⟩
      · go_simp
      · exact World.cell?_setCell_same' _ _ _ (by go_simp)
    · have he' : (x == d) = false := by simp [he]
      have HQ := hid (openLI_snoc pre d x i0 he)
      have HX := hid he
      clear i0 he
      gi_wp2
      exact ⟨Keeps.refl _ W1, HQ.out, i1, i2, i3, i4, i5, i6⟩
  case done =>
    rintro W1 hs4 ⟨i0, i1, i2, i3, i4, i5, i6⟩ hD
    have HQ := hid i0
    clear i0
    gi_wp2
    have hD' := heap_set2 hD ⟨w.heap.size + 1 + 1, 0, none⟩ ⟨w.heap.size + 1 + 1 + 1, 0, none⟩ (.bool false) (.int .i64 0) (by simp; omega) (by simp; omega)
    refine ⟨by simp, .inl ⟨_, _, rfl, run_takeDeferred hD', ?_⟩⟩
    have t1 := World.cell?_setCell_same' (W1.setCell ⟨w.heap.size + 1 + 1, 0, none⟩ (.bool false)) ⟨w.heap.size + 1 + 1 + 1, 0, none⟩ (.int .i64 0) (by go_simp)
    have t0 : ((W1.setCell ⟨w.heap.size + 1 + 1, 0, none⟩ (.bool false)).setCell ⟨w.heap.size + 1 + 1 + 1, 0, none⟩ (.int .i64 0)).cell? ⟨w.heap.size + 1 + 1, 0, none⟩ = some (.bool false) := by go_simp
    have s1 := putObj_cell t1 (D := w3.heap.size) (by simp; omega) (.deferred none)
    have s0 := putObj_cell t0 (D := w3.heap.size) (by simp; omega) (.deferred none)
    refine ⟨.tuple #[.bool false, .int .i64 0], ?_, ?_, ?_⟩
    · simp [results, Try.f17, go_sem, s0, s1]
    · exact ((i6.setCell (by simp <;> omega) _).setCell (by simp <;> omega) _).trans (putObj_below (by omega) _)
    · rw [HM.out, openLR_none _ d HQ.out]
  case stop =>
    rintro c pre W1 hs4 hpre ⟨rfl, v, i0, i1, i2, i6⟩ hD
    have HQ := hid (openLR_some _ _ d v i0 hpre)
    clear i0
    gi_wp2
    refine ⟨by simp, .inl ⟨_, _, rfl, run_takeDeferred hD, ?_⟩⟩
    have s1 := putObj_cell i2 (D := w3.heap.size) (by simp; omega) (.deferred none)
    have s0 := putObj_cell i1 (D := w3.heap.size) (by simp; omega) (.deferred none)
    refine ⟨.tuple #[.bool v, .int .i64 0], ?_, ?_, ?_⟩
    · simp [results, Try.f17, go_sem, s0, s1]
    · exact i6.trans (putObj_below (by omega) _)
    · rw [HM.out, HQ.out]

theorem isOpen_any (L : Int) (ra : Option Addr) (rs : List Int) (rc : Nat) (ca : Option Addr) (cs : List Int) (cc : Nat) (d : Int) (w : World) (h : TermAt w L ra rs ca cs) :
  Calls Try.prog 17 #[.agg #[.int .i64 L, .slice ra rs.length rc, .slice ca cs.length cc], .int .i64 d] w (BIR w (openL L rs cs d)) := by
  by_cases hz : checkD L rs cs d = 0
  · exact isOpen_ok L ra rs rc ca cs cc d w h hz (checkD_zero hz)
  · exact isOpen_err L ra rs rc ca cs cc d w h hz

set_option maxRecDepth 100000 in
set_option maxHeartbeats 2000000 in
theorem next_err (L : Int) (ra : Option Addr) (rs : List Int) (rc : Nat) (ca : Option Addr) (cs : List Int) (cc : Nat) (d : Int) (w : World) (h : TermAt w L ra rs ca cs) (hz : checkD L rs cs d ≠ 0) :
  Calls Try.prog 15 #[.agg #[.int .i64 L, .slice ra rs.length rc, .slice ca cs.length cc], .int .i64 d] w (Int2R w (nextL L rs cs d)) := by
  have HM := hid (show nextL L rs cs d = (0, checkD L rs cs d) by rw [nextL, if_pos hz])
  have hz' : (checkD L rs cs d != 0) = true := by simp [hz]
  clear hz
  refine (callsIn_wide (n := 0)).1 ?_
  refine callsIn_of_wp_marks Try.func15 rfl trivial ?_ rfl
  simp only [Try.ntmps15, List.size_toArray, List.length_cons, List.length_nil, Nat.reduceAdd, Nat.reduceSub, Array.replicate_succ, Array.replicate_zero, List.push_toArray, List.append_toArray, List.nil_append, List.cons_append]
  gi_wp2_with fail
  obtain ⟨wq, hwq⟩ : ∃ wq, ((((w.alloc (.cells #[.int .i64 L, .slice ra rs.length rc, .slice ca cs.length cc] 24)).alloc (.cells #[.int .i64 d] 3)).alloc (.cells #[.int .i64 0] 3)).alloc (.cells #[.int .i64 0] 29)) = wq := ⟨_, rfl⟩
  have q1 : Below w.heap.size w wq := by
    rw [← hwq]
    repeat (first | exact Below.refl _ _ | refine Below.alloc ?_ (by simp <;> omega) _)
  have hsz : wq.heap.size = w.heap.size + 1 + 1 + 1 + 1 := by rw [← hwq]; simp
  have b0 : wq.cell? ⟨w.heap.size, 0, none⟩ = some (.int .i64 L) := by rw [← hwq]; clear hwq; go_simp
  have b1 : wq.cell? ⟨w.heap.size, 1, none⟩ = some (.slice ra rs.length rc) := by rw [← hwq]; clear hwq; go_simp
  have b2 : wq.cell? ⟨w.heap.size, 2, none⟩ = some (.slice ca cs.length cc) := by rw [← hwq]; clear hwq; go_simp
  have g3 : wq.cell? ⟨w.heap.size + 1, 0, none⟩ = some (.int .i64 d) := by rw [← hwq]; clear hwq; go_simp
  have r0 : wq.cell? ⟨w.heap.size + 1 + 1, 0, none⟩ = some (.int .i64 0) := by rw [← hwq]; clear hwq; go_simp
  have r1 : wq.cell? ⟨w.heap.size + 1 + 1 + 1, 0, none⟩ = some (.int .i64 0) := by rw [← hwq]; clear hwq; go_simp
  have f0 : wq.frozen? ⟨w.heap.size + 1 + 1, 0, none⟩ = false := by rw [← hwq]; clear hwq; go_simp
  have f1 : wq.frozen? ⟨w.heap.size + 1 + 1 + 1, 0, none⟩ = false := by rw [← hwq]; clear hwq; go_simp
  rw [hwq]
  clear hwq
  have hT := h.below q1
  refine ⟨trivial, rfl, ?_⟩
  refine (callsIn_wide.2 (checkDay_any L ra rs rc ca cs cc d _ hT)).mono ?_
  rintro e w1 ⟨hb, rfl⟩
  have p1 := q1.trans (hb.mono (by omega))
  have hs1 := hb.size
  rw [← hb.cell (by simp; omega)] at b0 b1 b2 g3 r0 r1
  rw [← hb.frozen (by simp; omega)] at f0 f1
  gi_wp2
  refine ⟨.tuple #[.int .i64 0, .int .i64 (checkD L rs cs d)], ?_, ?_, by rw [HM.out]⟩
  · have t1 := World.cell?_setCell_same' (w1.setCell ⟨w.heap.size + 1 + 1, 0, none⟩ (.int .i64 0)) ⟨w.heap.size + 1 + 1 + 1, 0, none⟩ (.int .i64 (checkD L rs cs d)) (by go_simp)
    have t0 := World.cell?_setCell_same' w1 ⟨w.heap.size + 1 + 1, 0, none⟩ (.int .i64 0) (by rw [r0]; rfl)
    simp [results, Try.f15, go_sem, t0, t1]
  · exact (p1.setCell (by simp <;> omega) _).setCell (by simp <;> omega) _

set_option maxRecDepth 100000 in
set_option maxHeartbeats 2000000 in
theorem next_ok (L : Int) (ra : Option Addr) (rs : List Int) (rc : Nat) (ca : Option Addr) (cs : List Int) (cc : Nat) (d : Int) (w : World) (h : TermAt w L ra rs ca cs) (hz : checkD L rs cs d = 0) (hv : validT L rs cs = 0) :
  Calls Try.prog 15 #[.agg #[.int .i64 L, .slice ra rs.length rc, .slice ca cs.length cc], .int .i64 d] w (Int2R w (nextL L rs cs d)) := by
  have HM := hid (show nextL L rs cs d = nextLR (sdl (wd rs cs L.toNat)) d by rw [nextL, if_neg (by simp [hz])])
  have HZ := hid hz
  clear hz
  refine (callsIn_wide (n := 0)).1 ?_
  refine callsIn_of_wp_marks Try.func15 rfl trivial ?_ rfl
  simp only [Try.ntmps15, List.size_toArray, List.length_cons, List.length_nil, Nat.reduceAdd, Nat.reduceSub, Array.replicate_succ, Array.replicate_zero, List.push_toArray, List.append_toArray, List.nil_append, List.cons_append]
  gi_wp2_with fail
  obtain ⟨wq, hwq⟩ : ∃ wq, ((((w.alloc (.cells #[.int .i64 L, .slice ra rs.length rc, .slice ca cs.length cc] 24)).alloc (.cells #[.int .i64 d] 3)).alloc (.cells #[.int .i64 0] 3)).alloc (.cells #[.int .i64 0] 29)) = wq := ⟨_, rfl⟩
  have q1 : Below w.heap.size w wq := by
    rw [← hwq]
    repeat (first | exact Below.refl _ _ | refine Below.alloc ?_ (by simp <;> omega) _)
  have hsz : wq.heap.size = w.heap.size + 1 + 1 + 1 + 1 := by rw [← hwq]; simp
  have b0 : wq.cell? ⟨w.heap.size, 0, none⟩ = some (.int .i64 L) := by rw [← hwq]; clear hwq; go_simp
  have b1 : wq.cell? ⟨w.heap.size, 1, none⟩ = some (.slice ra rs.length rc) := by rw [← hwq]; clear hwq; go_simp
  have b2 : wq.cell? ⟨w.heap.size, 2, none⟩ = some (.slice ca cs.length cc) := by rw [← hwq]; clear hwq; go_simp
  have g3 : wq.cell? ⟨w.heap.size + 1, 0, none⟩ = some (.int .i64 d) := by rw [← hwq]; clear hwq; go_simp
  have r0 : wq.cell? ⟨w.heap.size + 1 + 1, 0, none⟩ = some (.int .i64 0) := by rw [← hwq]; clear hwq; go_simp
  have r1 : wq.cell? ⟨w.heap.size + 1 + 1 + 1, 0, none⟩ = some (.int .i64 0) := by rw [← hwq]; clear hwq; go_simp
  have f0 : wq.frozen? ⟨w.heap.size + 1 + 1, 0, none⟩ = false := by rw [← hwq]; clear hwq; go_simp
  have f1 : wq.frozen? ⟨w.heap.size + 1 + 1 + 1, 0, none⟩ = false := by rw [← hwq]; clear hwq; go_simp
  rw [hwq]
  clear hwq
  have hT := h.below q1
  refine ⟨trivial, rfl, ?_⟩
  refine (callsIn_wide.2 (checkDay_any L ra rs rc ca cs cc d _ hT)).mono ?_
  rintro e w1 ⟨hb, rfl⟩
  have p1 := q1.trans (hb.mono (by omega))
  have hs1 := hb.size
  rw [← hb.cell (by simp; omega)] at b0 b1 b2 g3 r0 r1
  rw [← hb.frozen (by simp; omega)] at f0 f1
  rw [HZ.out]
  gi_wp2_with fail
  refine ⟨trivial, rfl, ?_⟩
  refine (callsIn_wide.2 (schoolDays_any _ _ _ _)).mono ?_
  rintro e w3 ⟨hw3, rfl⟩
  have hb3 : Below w1.heap.size w1 w3 := by rw [← hw3]; exact (Below.refl _ _).alloc (Nat.le_refl _) _
  have z0 : w3.cell? ⟨w1.heap.size, 0, none⟩ = some (.int .i64 L) := by rw [← hw3]; clear hw3; go_simp
  have z1 : w3.cell? ⟨w1.heap.size, 1, none⟩ = some (.slice ra rs.length rc) := by rw [← hw3]; clear hw3; go_simp
  have z2 : w3.cell? ⟨w1.heap.size, 2, none⟩ = some (.slice ca cs.length cc) := by rw [← hw3]; clear hw3; go_simp
  have hs3 : w3.heap.size = w1.heap.size + 1 := by rw [← hw3]; simp
  clear hw3
  have p3 := p1.trans (hb3.mono (by omega))
  rw [← hb3.cell (by simp; omega)] at g3 r0 r1
  rw [← hb3.frozen (by simp; omega)] at f0 f1
  gi_wp2_with fail
  refine wpIn_range (gf := 62) (lb := #[.pointer (some ⟨w1.heap.size, 0, none⟩)]) rfl (enters_of Try.func62 (by kernel_rfl) rfl)
    (schoolDays_iter L ra rs rc ca cs cc w1.heap.size w w3 h hv (by omega) (fun b hlt => p3.block b hlt) z0 z1 z2)
    (fun b hh => by omega) (fun b _ => rfl) (fun _ => rfl)
    (fun pre W1 => nextLI pre d ∧ W1.cell? ⟨w.heap.size + 1, 0, none⟩ = some (.int .i64 d) ∧ W1.cell? ⟨w.heap.size + 1 + 1, 0, none⟩ = some (.int .i64 0) ∧ W1.cell? ⟨w.heap.size + 1 + 1 + 1, 0, none⟩ = some (.int .i64 0) ∧
      W1.frozen? ⟨w.heap.size + 1 + 1, 0, none⟩ = false ∧ W1.frozen? ⟨w.heap.size + 1 + 1 + 1, 0, none⟩ = false ∧ Below w.heap.size w W1)
    (fun c pre W1 => c = .ret ∧ ∃ v, nextLH pre d v ∧ W1.cell? ⟨w.heap.size + 1 + 1, 0, none⟩ = some (.int .i64 v) ∧ W1.cell? ⟨w.heap.size + 1 + 1 + 1, 0, none⟩ = some (.int .i64 0) ∧ Below w.heap.size w W1) ?hI ?hIx ?h0 ?round ?done ?stop
  case hI =>
    rintro p A B ⟨i0, i1, i2, i3, i4, i5, i6⟩ hK
    exact ⟨i0, hK.cell i1 (by simp; omega), hK.cell i2 (by simp; omega), hK.cell i3 (by simp; omega), by rw [hK.frozen (cell_lt i2) (by simp; omega)]; exact i4, by rw [hK.frozen (cell_lt i3) (by simp; omega)]; exact i5, i6.trans (hK.below i6.size (fun b hb hh => by have : w3.heap.size ≤ b := hh; omega))⟩
  case hIx =>
    rintro c p A B ⟨hc, v, i0, i1, i2, i6⟩ hK
    exact ⟨hc, v, i0, hK.cell i1 (by simp; omega), hK.cell i2 (by simp; omega), i6.trans (hK.below i6.size (fun b hb hh => by have : w3.heap.size ≤ b := hh; omega))⟩
  case h0 => exact ⟨nextLI_nil d, g3, r0, r1, f0, f1, p3⟩
  case round =>
    rintro l pre x W1 hsuf hs4 ⟨i0, i1, i2, i3, i4, i5, i6⟩ Wa K hK
    by_cases he : d ≤ x
    · skip
      have HQ := hid (nextLH_snoc pre d x i0 he)
      have HX := hid he
      clear i0 he
      have he := HX.out
      gi_wp2
      refine ⟨((Keeps.refl _ W1).setCell (.inl ⟨by simp; omega, by simp; omega⟩) _).setCell (.inl ⟨by simp; omega, by simp; omega⟩) _, rfl, x, HQ.out, ?_, ?_, (i6.setCell (by simp <;> omega) _).setCell (by simp <;> omega) _⟩
      · go_simp
      · exact World.cell?_setCell_same' _ _ _ (by go_simp)
    · have he' : x < d := by omega
      have HQ := hid (nextLI_snoc pre d x i0 he)
      have HX := hid he
      clear i0 he
      gi_wp2
      exact ⟨Keeps.refl _ W1, HQ.out, i1, i2, i3, i4, i5, i6⟩
  case done =>
    rintro W1 hs4 ⟨i0, i1, i2, i3, i4, i5, i6⟩ hD
    have HQ := hid i0
    clear i0
    gi_wp2
    have hD' := heap_set2 hD ⟨w.heap.size + 1 + 1, 0, none⟩ ⟨w.heap.size + 1 + 1 + 1, 0, none⟩ (.int .i64 0) (.int .i64 5) (by simp; omega) (by simp; omega)
    refine ⟨by simp, .inl ⟨_, _, rfl, run_takeDeferred hD', ?_⟩⟩
    have t1 := World.cell?_setCell_same' (W1.setCell ⟨w.heap.size + 1 + 1, 0, none⟩ (.int .i64 0)) ⟨w.heap.size + 1 + 1 + 1, 0, none⟩ (.int .i64 5) (by go_simp)
    have t0 : ((W1.setCell ⟨w.heap.size + 1 + 1, 0, none⟩ (.int .i64 0)).setCell ⟨w.heap.size + 1 + 1 + 1, 0, none⟩ (.int .i64 5)).cell? ⟨w.heap.size + 1 + 1, 0, none⟩ = some (.int .i64 0) := by go_simp
    have s1 := putObj_cell t1 (D := w3.heap.size) (by simp; omega) (.deferred none)
    have s0 := putObj_cell t0 (D := w3.heap.size) (by simp; omega) (.deferred none)
    refine ⟨.tuple #[.int .i64 0, .int .i64 5], ?_, ?_, ?_⟩
    · simp [results, Try.f15, go_sem, s0, s1]
    · exact ((i6.setCell (by simp <;> omega) _).setCell (by simp <;> omega) _).trans (putObj_below (by omega) _)
    · rw [HM.out, nextLR_none _ d HQ.out]
  case stop =>
    rintro c pre W1 hs4 hpre ⟨rfl, v, i0, i1, i2, i6⟩ hD
    have HQ := hid (nextLR_some _ _ d v i0 hpre)
    clear i0
    gi_wp2
    refine ⟨by simp, .inl ⟨_, _, rfl, run_takeDeferred hD, ?_⟩⟩
    have s1 := putObj_cell i2 (D := w3.heap.size) (by simp; omega) (.deferred none)
    have s0 := putObj_cell i1 (D := w3.heap.size) (by simp; omega) (.deferred none)
    refine ⟨.tuple #[.int .i64 v, .int .i64 0], ?_, ?_, ?_⟩
    · simp [results, Try.f15, go_sem, s0, s1]
    · exact i6.trans (putObj_below (by omega) _)
    · rw [HM.out, HQ.out]

theorem next_any (L : Int) (ra : Option Addr) (rs : List Int) (rc : Nat) (ca : Option Addr) (cs : List Int) (cc : Nat) (d : Int) (w : World) (h : TermAt w L ra rs ca cs) :
  Calls Try.prog 15 #[.agg #[.int .i64 L, .slice ra rs.length rc, .slice ca cs.length cc], .int .i64 d] w (Int2R w (nextL L rs cs d)) := by
  by_cases hz : checkD L rs cs d = 0
  · exact next_ok L ra rs rc ca cs cc d w h hz (checkD_zero hz)
  · exact next_err L ra rs rc ca cs cc d w h hz

set_option maxRecDepth 100000 in
set_option maxHeartbeats 2000000 in
theorem nth_err (L : Int) (ra : Option Addr) (rs : List Int) (rc : Nat) (ca : Option Addr) (cs : List Int) (cc : Nat) (d : Int) (w : World) (h : TermAt w L ra rs ca cs) (hz : validT L rs cs ≠ 0) :
  Calls Try.prog 13 #[.agg #[.int .i64 L, .slice ra rs.length rc, .slice ca cs.length cc], .int .i64 d] w (Int2R w (nthL L rs cs d)) := by
  have HM := hid (show nthL L rs cs d = (0, validT L rs cs) by rw [nthL, if_pos hz])
  have hz' : (validT L rs cs != 0) = true := by simp [hz]
  clear hz
  refine (callsIn_wide (n := 0)).1 ?_
  refine callsIn_of_wp_marks Try.func13 rfl trivial ?_ rfl
  simp only [Try.ntmps13, List.size_toArray, List.length_cons, List.length_nil, Nat.reduceAdd, Nat.reduceSub, Array.replicate_succ, Array.replicate_zero, List.push_toArray, List.append_toArray, List.nil_append, List.cons_append]
  gi_wp2_with fail
  obtain ⟨wq, hwq⟩ : ∃ wq, ((((w.alloc (.cells #[.int .i64 L, .slice ra rs.length rc, .slice ca cs.length cc] 24)).alloc (.cells #[.int .i64 d] 3)).alloc (.cells #[.int .i64 0] 3)).alloc (.cells #[.int .i64 0] 29)) = wq := ⟨_, rfl⟩
  have q1 : Below w.heap.size w wq := by
    rw [← hwq]
    repeat (first | exact Below.refl _ _ | refine Below.alloc ?_ (by simp <;> omega) _)
  have hsz : wq.heap.size = w.heap.size + 1 + 1 + 1 + 1 := by rw [← hwq]; simp
  have b0 : wq.cell? ⟨w.heap.size, 0, none⟩ = some (.int .i64 L) := by rw [← hwq]; clear hwq; go_simp
  have b1 : wq.cell? ⟨w.heap.size, 1, none⟩ = some (.slice ra rs.length rc) := by rw [← hwq]; clear hwq; go_simp
  have b2 : wq.cell? ⟨w.heap.size, 2, none⟩ = some (.slice ca cs.length cc) := by rw [← hwq]; clear hwq; go_simp
  have g3 : wq.cell? ⟨w.heap.size + 1, 0, none⟩ = some (.int .i64 d) := by rw [← hwq]; clear hwq; go_simp
  have r0 : wq.cell? ⟨w.heap.size + 1 + 1, 0, none⟩ = some (.int .i64 0) := by rw [← hwq]; clear hwq; go_simp
  have r1 : wq.cell? ⟨w.heap.size + 1 + 1 + 1, 0, none⟩ = some (.int .i64 0) := by rw [← hwq]; clear hwq; go_simp
  have f0 : wq.frozen? ⟨w.heap.size + 1 + 1, 0, none⟩ = false := by rw [← hwq]; clear hwq; go_simp
  have f1 : wq.frozen? ⟨w.heap.size + 1 + 1 + 1, 0, none⟩ = false := by rw [← hwq]; clear hwq; go_simp
  rw [hwq]
  clear hwq
  have hT := h.below q1
  refine ⟨trivial, rfl, ?_⟩
  refine (callsIn_wide.2 (validate_any L ra rs rc ca cs cc _ hT)).mono ?_
  rintro e w1 ⟨hb, rfl⟩
  have p1 := q1.trans (hb.mono (by omega))
  have hs1 := hb.size
  rw [← hb.cell (by simp; omega)] at b0 b1 b2 g3 r0 r1
  rw [← hb.frozen (by simp; omega)] at f0 f1
  gi_wp2
  refine ⟨.tuple #[.int .i64 0, .int .i64 (validT L rs cs)], ?_, ?_, by rw [HM.out]⟩
  · have t1 := World.cell?_setCell_same' (w1.setCell ⟨w.heap.size + 1 + 1, 0, none⟩ (.int .i64 0)) ⟨w.heap.size + 1 + 1 + 1, 0, none⟩ (.int .i64 (validT L rs cs)) (by go_simp)
    have t0 := World.cell?_setCell_same' w1 ⟨w.heap.size + 1 + 1, 0, none⟩ (.int .i64 0) (by rw [r0]; rfl)
    simp [results, Try.f13, go_sem, t0, t1]
  · exact (p1.setCell (by simp <;> omega) _).setCell (by simp <;> omega) _

set_option maxRecDepth 100000 in
set_option maxHeartbeats 2000000 in
theorem nth_ok (L : Int) (ra : Option Addr) (rs : List Int) (rc : Nat) (ca : Option Addr) (cs : List Int) (cc : Nat) (d : Int) (w : World) (h : TermAt w L ra rs ca cs) (hz : validT L rs cs = 0) (hv : validT L rs cs = 0) :
  Calls Try.prog 13 #[.agg #[.int .i64 L, .slice ra rs.length rc, .slice ca cs.length cc], .int .i64 d] w (Int2R w (nthL L rs cs d)) := by
  have HM := hid (show nthL L rs cs d = nthLR (sdl (wd rs cs L.toNat)) d by rw [nthL, if_neg (by simp [hz])])
  have HZ := hid hz
  clear hz
  refine (callsIn_wide (n := 0)).1 ?_
  refine callsIn_of_wp_marks Try.func13 rfl trivial ?_ rfl
  simp only [Try.ntmps13, List.size_toArray, List.length_cons, List.length_nil, Nat.reduceAdd, Nat.reduceSub, Array.replicate_succ, Array.replicate_zero, List.push_toArray, List.append_toArray, List.nil_append, List.cons_append]
  gi_wp2_with fail
  obtain ⟨wq, hwq⟩ : ∃ wq, ((((w.alloc (.cells #[.int .i64 L, .slice ra rs.length rc, .slice ca cs.length cc] 24)).alloc (.cells #[.int .i64 d] 3)).alloc (.cells #[.int .i64 0] 3)).alloc (.cells #[.int .i64 0] 29)) = wq := ⟨_, rfl⟩
  have q1 : Below w.heap.size w wq := by
    rw [← hwq]
    repeat (first | exact Below.refl _ _ | refine Below.alloc ?_ (by simp <;> omega) _)
  have hsz : wq.heap.size = w.heap.size + 1 + 1 + 1 + 1 := by rw [← hwq]; simp
  have b0 : wq.cell? ⟨w.heap.size, 0, none⟩ = some (.int .i64 L) := by rw [← hwq]; clear hwq; go_simp
  have b1 : wq.cell? ⟨w.heap.size, 1, none⟩ = some (.slice ra rs.length rc) := by rw [← hwq]; clear hwq; go_simp
  have b2 : wq.cell? ⟨w.heap.size, 2, none⟩ = some (.slice ca cs.length cc) := by rw [← hwq]; clear hwq; go_simp
  have g3 : wq.cell? ⟨w.heap.size + 1, 0, none⟩ = some (.int .i64 d) := by rw [← hwq]; clear hwq; go_simp
  have r0 : wq.cell? ⟨w.heap.size + 1 + 1, 0, none⟩ = some (.int .i64 0) := by rw [← hwq]; clear hwq; go_simp
  have r1 : wq.cell? ⟨w.heap.size + 1 + 1 + 1, 0, none⟩ = some (.int .i64 0) := by rw [← hwq]; clear hwq; go_simp
  have f0 : wq.frozen? ⟨w.heap.size + 1 + 1, 0, none⟩ = false := by rw [← hwq]; clear hwq; go_simp
  have f1 : wq.frozen? ⟨w.heap.size + 1 + 1 + 1, 0, none⟩ = false := by rw [← hwq]; clear hwq; go_simp
  rw [hwq]
  clear hwq
  have hT := h.below q1
  refine ⟨trivial, rfl, ?_⟩
  refine (callsIn_wide.2 (validate_any L ra rs rc ca cs cc _ hT)).mono ?_
  rintro e w1 ⟨hb, rfl⟩
  have p1 := q1.trans (hb.mono (by omega))
  have hs1 := hb.size
  rw [← hb.cell (by simp; omega)] at b0 b1 b2 g3 r0 r1
  rw [← hb.frozen (by simp; omega)] at f0 f1
  rw [HZ.out]
  have hn0 : w.heap.size < w1.heap.size := by omega
  gi_wp2_with fail
  obtain ⟨wc, hwc⟩ : ∃ wc, w1.alloc (.cells #[.int .i64 0] 3) = wc := ⟨_, rfl⟩
  have hbc : Below w1.heap.size w1 wc := by rw [← hwc]; exact (Below.refl _ _).alloc (Nat.le_refl _) _
  have n0 : wc.cell? ⟨w1.heap.size, 0, none⟩ = some (.int .i64 0) := by rw [← hwc]; clear hwc; go_simp
  have m0 : wc.frozen? ⟨w1.heap.size, 0, none⟩ = false := by rw [← hwc]; clear hwc; go_simp
  have hsc : wc.heap.size = w1.heap.size + 1 := by rw [← hwc]; simp
  rw [← hbc.cell (by simp; omega)] at b0 b1 b2 g3 r0 r1
  rw [← hbc.frozen (by simp; omega)] at f0 f1
  rw [hwc]
  clear hwc
  have p2 := p1.trans (hbc.mono (by omega))
  refine ⟨trivial, rfl, ?_⟩
  refine (callsIn_wide.2 (schoolDays_any _ _ _ _)).mono ?_
  rintro e w3 ⟨hw3, rfl⟩
  have hb3 : Below wc.heap.size wc w3 := by rw [← hw3]; exact (Below.refl _ _).alloc (Nat.le_refl _) _
  have z0 : w3.cell? ⟨wc.heap.size, 0, none⟩ = some (.int .i64 L) := by rw [← hw3]; clear hw3; go_simp
  have z1 : w3.cell? ⟨wc.heap.size, 1, none⟩ = some (.slice ra rs.length rc) := by rw [← hw3]; clear hw3; go_simp
  have z2 : w3.cell? ⟨wc.heap.size, 2, none⟩ = some (.slice ca cs.length cc) := by rw [← hw3]; clear hw3; go_simp
  have hs3 : w3.heap.size = wc.heap.size + 1 := by rw [← hw3]; simp
  rw [hsc] at z0 z1 z2
  clear hw3
  have p3 := p2.trans (hb3.mono (by omega))
  rw [← hb3.cell (by simp; omega)] at g3 r0 r1 n0
  rw [← hb3.frozen (by simp; omega)] at f0 f1 m0
  gi_wp2_with fail
  refine wpIn_range (gf := 62) (lb := #[.pointer (some ⟨(w1.heap.size + 1), 0, none⟩)]) rfl (enters_of Try.func62 (by kernel_rfl) rfl)
    (schoolDays_iter L ra rs rc ca cs cc (w1.heap.size + 1) w w3 h hv (by omega) (fun b hlt => p3.block b hlt) z0 z1 z2)
    (fun b hh => by omega) (fun b _ => rfl) (fun _ => rfl)
    (fun pre W1 => nthLI pre d ∧ W1.cell? ⟨w.heap.size + 1, 0, none⟩ = some (.int .i64 d) ∧ W1.cell? ⟨w.heap.size + 1 + 1, 0, none⟩ = some (.int .i64 0) ∧ W1.cell? ⟨w.heap.size + 1 + 1 + 1, 0, none⟩ = some (.int .i64 0) ∧
      W1.frozen? ⟨w.heap.size + 1 + 1, 0, none⟩ = false ∧ W1.frozen? ⟨w.heap.size + 1 + 1 + 1, 0, none⟩ = false ∧ Below w.heap.size w W1 ∧ W1.cell? ⟨w1.heap.size, 0, none⟩ = some (.int .i64 (pre.length : Int)) ∧ W1.frozen? ⟨w1.heap.size, 0, none⟩ = false)
    (fun c pre W1 => c = .ret ∧ ∃ v, nthLH pre d v ∧ W1.cell? ⟨w.heap.size + 1 + 1, 0, none⟩ = some (.int .i64 v) ∧ W1.cell? ⟨w.heap.size + 1 + 1 + 1, 0, none⟩ = some (.int .i64 0) ∧ Below w.heap.size w W1) ?hI ?hIx ?h0 ?round ?done ?stop
  case hI =>
    rintro p A B ⟨i0, i1, i2, i3, i4, i5, i6, j1, j2⟩ hK
    exact ⟨i0, hK.cell i1 (by simp; omega), hK.cell i2 (by simp; omega), hK.cell i3 (by simp; omega), by rw [hK.frozen (cell_lt i2) (by simp; omega)]; exact i4, by rw [hK.frozen (cell_lt i3) (by simp; omega)]; exact i5, i6.trans (hK.below i6.size (fun b hb hh => by have : w3.heap.size ≤ b := hh; omega)), hK.cell j1 (by simp; omega), by rw [hK.frozen (cell_lt j1) (by simp; omega)]; exact j2⟩
  case hIx =>
    rintro c p A B ⟨hc, v, i0, i1, i2, i6⟩ hK
    exact ⟨hc, v, i0, hK.cell i1 (by simp; omega), hK.cell i2 (by simp; omega), i6.trans (hK.below i6.size (fun b hb hh => by have : w3.heap.size ≤ b := hh; omega))⟩
  case h0 => exact ⟨nthLI_nil d, g3, r0, r1, f0, f1, p3, n0, m0⟩
  case round =>
    rintro l pre x W1 hsuf hs4 ⟨i0, i1, i2, i3, i4, i5, i6, j1, j2⟩ Wa K hK
    by_cases he : (pre.length : Int) = d
    · have he' : ((pre.length : Int) == d) = true := by simp [he]
      have HQ := hid (nthLH_snoc pre d x i0 he)
      have HX := hid he
      clear i0 he
      gi_wp2
      refine ⟨((Keeps.refl _ W1).setCell (.inl ⟨by simp; omega, by simp; omega⟩) _).setCell (.inl ⟨by simp; omega, by simp; omega⟩) _, rfl, x, HQ.out, ?_, ?_, (i6.setCell (by simp <;> omega) _).setCell (by simp <;> omega) _⟩
      · go_simp
      · exact World.cell?_setCell_same' _ _ _ (by go_simp)
    · have he' : ((pre.length : Int) == d) = false := by simp [he]
      have HQ := hid (nthLI_snoc pre d x i0 he)
      have HX := hid he
      clear i0 he
      have hpl := sd_len rs cs L.toNat pre x hsuf
      have hL2 := (validT_ok hv).2.1
      gi_wp2
      refine ⟨(Keeps.refl _ W1).setCell (.inl ⟨by simp; omega, by simp; omega⟩) _, HQ.out, by go_simp, by go_simp, by go_simp, by go_simp, by go_simp, i6.setCell (by simp <;> omega) _, ?_, by go_simp⟩
      have hcw := World.cell?_setCell_same' W1 ⟨w1.heap.size, 0, none⟩ (.int .i64 ((pre.length : Int) + 1)) (by rw [j1]; rfl)
      simpa using hcw
  case done =>
    rintro W1 hs4 ⟨i0, i1, i2, i3, i4, i5, i6, _, _⟩ hD
    have HQ := hid i0
    clear i0
    gi_wp2
    have hD' := heap_set2 hD ⟨w.heap.size + 1 + 1, 0, none⟩ ⟨w.heap.size + 1 + 1 + 1, 0, none⟩ (.int .i64 0) (.int .i64 5) (by simp; omega) (by simp; omega)
    refine ⟨by simp, .inl ⟨_, _, rfl, run_takeDeferred hD', ?_⟩⟩
    have t1 := World.cell?_setCell_same' (W1.setCell ⟨w.heap.size + 1 + 1, 0, none⟩ (.int .i64 0)) ⟨w.heap.size + 1 + 1 + 1, 0, none⟩ (.int .i64 5) (by go_simp)
    have t0 : ((W1.setCell ⟨w.heap.size + 1 + 1, 0, none⟩ (.int .i64 0)).setCell ⟨w.heap.size + 1 + 1 + 1, 0, none⟩ (.int .i64 5)).cell? ⟨w.heap.size + 1 + 1, 0, none⟩ = some (.int .i64 0) := by go_simp
    have s1 := putObj_cell t1 (D := w3.heap.size) (by simp; omega) (.deferred none)
    have s0 := putObj_cell t0 (D := w3.heap.size) (by simp; omega) (.deferred none)
    refine ⟨.tuple #[.int .i64 0, .int .i64 5], ?_, ?_, ?_⟩
    · simp [results, Try.f13, go_sem, s0, s1]
    · exact ((i6.setCell (by simp <;> omega) _).setCell (by simp <;> omega) _).trans (putObj_below (by omega) _)
    · rw [HM.out, nthLR_none _ d HQ.out]
  case stop =>
    rintro c pre W1 hs4 hpre ⟨rfl, v, i0, i1, i2, i6⟩ hD
    have HQ := hid (nthLR_some _ _ d v i0 hpre)
    clear i0
    gi_wp2
    refine ⟨by simp, .inl ⟨_, _, rfl, run_takeDeferred hD, ?_⟩⟩
    have s1 := putObj_cell i2 (D := w3.heap.size) (by simp; omega) (.deferred none)
    have s0 := putObj_cell i1 (D := w3.heap.size) (by simp; omega) (.deferred none)
    refine ⟨.tuple #[.int .i64 v, .int .i64 0], ?_, ?_, ?_⟩
    · simp [results, Try.f13, go_sem, s0, s1]
    · exact i6.trans (putObj_below (by omega) _)
    · rw [HM.out, HQ.out]

theorem nth_any (L : Int) (ra : Option Addr) (rs : List Int) (rc : Nat) (ca : Option Addr) (cs : List Int) (cc : Nat) (d : Int) (w : World) (h : TermAt w L ra rs ca cs) :
  Calls Try.prog 13 #[.agg #[.int .i64 L, .slice ra rs.length rc, .slice ca cs.length cc], .int .i64 d] w (Int2R w (nthL L rs cs d)) := by
  by_cases hz : validT L rs cs = 0
  · exact nth_ok L ra rs rc ca cs cc d w h hz (hz)
  · exact nth_err L ra rs rc ca cs cc d w h hz

end Go.Proofs.Ytilolaednbcaoaa
