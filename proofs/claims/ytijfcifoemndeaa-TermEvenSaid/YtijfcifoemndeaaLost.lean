/- The Go function Lost of package term. -/
import Derived.Test.YtijfcifoemndeaaServed
import Derived.Test.YtijfcifoemndeaaOpens
set_option linter.unusedVariables false
namespace Go.Proofs.Ytijfcifoemndeaa
open Go.RowKit Go.Shelf

attribute [local go_sem] Oper.semAt_some

def lostL (L : Int) (rs cs : List Int) (m f k : Int) : Int × Int :=
  if checkC L rs cs [(m, f, k)] ≠ 0 then (0, checkC L rs cs [(m, f, k)]) else if k ≠ 1 then (0, 0) else (lostN (wd rs cs L.toNat), 0)

set_option maxRecDepth 100000 in
set_option maxHeartbeats 4000000 in
theorem lost_any (L : Int) (ra : Option Addr) (rs : List Int) (rc : Nat) (ca : Option Addr) (cs : List Int) (cc : Nat) (m f k : Int) (w : World) (h : TermAt w L ra rs ca cs) :
  Calls Try.prog 37 #[.agg #[.int .i64 L, .slice ra rs.length rc, .slice ca cs.length cc], .agg #[.int .i64 m, .int .i64 f, .int .i64 k]] w (Int2R w (lostL L rs cs m f k)) := by
  refine (callsIn_wide (n := 0)).1 ?_
  refine callsIn_of_wp_marks Try.func37 rfl trivial ?_ rfl
  simp only [Try.ntmps37, List.size_toArray, List.length_cons, List.length_nil, Nat.reduceAdd, Nat.reduceSub, Array.replicate_succ, Array.replicate_zero, List.push_toArray, List.append_toArray, List.nil_append, List.cons_append]
  gi_wp2_with fail
  obtain ⟨wq, hwq⟩ : ∃ wq, (((w.alloc (.cells #[.int .i64 L, .slice ra rs.length rc, .slice ca cs.length cc] 24)).alloc (.cells #[.int .i64 m, .int .i64 f, .int .i64 k] 26)).alloc (.cells #[.int .i64 m, .int .i64 f, .int .i64 k] 26)) = wq := ⟨_, rfl⟩
  have q1 : Below w.heap.size w wq := by
    rw [← hwq]
    repeat (first | exact Below.refl _ _ | refine Below.alloc ?_ (by simp <;> omega) _)
  have hsz : wq.heap.size = w.heap.size + 1 + 1 + 1 := by rw [← hwq]; simp
  have a0 : wq.cell? ⟨w.heap.size, 0, none⟩ = some (.int .i64 L) := by rw [← hwq]; clear hwq; go_simp
  have a1 : wq.cell? ⟨w.heap.size, 1, none⟩ = some (.slice ra rs.length rc) := by rw [← hwq]; clear hwq; go_simp
  have a2 : wq.cell? ⟨w.heap.size, 2, none⟩ = some (.slice ca cs.length cc) := by rw [← hwq]; clear hwq; go_simp
  have b0 : wq.cell? ⟨w.heap.size + 1, 0, none⟩ = some (.int .i64 m) := by rw [← hwq]; clear hwq; go_simp
  have b1 : wq.cell? ⟨w.heap.size + 1, 1, none⟩ = some (.int .i64 f) := by rw [← hwq]; clear hwq; go_simp
  have b2 : wq.cell? ⟨w.heap.size + 1, 2, none⟩ = some (.int .i64 k) := by rw [← hwq]; clear hwq; go_simp
  have hcy : Cycles wq (some ⟨w.heap.size + 1 + 1, 0, none⟩) [(m, f, k)] := by
    refine ⟨by simp, .inr ⟨_, _, rfl, fun i hi => ?_⟩⟩
    obtain rfl : i = 0 := by simp at hi; omega
    refine ⟨?_, ?_, ?_⟩ <;> (rw [← hwq]; clear hwq; go_simp)
  rw [hwq]
  clear hwq
  have hT := h.below q1
  refine ⟨trivial, rfl, ?_⟩
  refine (callsIn_wide.2 (check_any L ra rs rc ca cs cc _ [(m, f, k)] _ _ hT hcy)).mono ?_
  rintro e w1 ⟨hb, rfl⟩
  have p1 := q1.trans (hb.mono (by omega))
  have hs1 := hb.size
  rw [← hb.cell (by simp; omega)] at a0 a1 a2 b0 b1 b2
  have g0 : w.heap.size < w1.heap.size := by omega
  have g1 : w.heap.size + 1 < w1.heap.size := by omega
  clear hcy hT hb q1
  by_cases hz : checkC L rs cs [(m, f, k)] = 0
  · obtain ⟨hv, hvc⟩ := checkC_zero hz
    have hL2 := (validT_ok hv).2.1
    have HM := hid (show lostL L rs cs m f k = _ from by rw [lostL, if_neg (by simp [hz])])
    have HVV := hid hv
    have HZ := hid hz
    clear hz hv hvc
    rw [HZ.out]
    by_cases hk : k = 1
    · subst hk
      have HM2 := hid (show lostL L rs cs m f 1 = (lostN (wd rs cs L.toNat), 0) by rw [HM.out, if_neg (by omega)])
      clear HM
      gi_wp2_with fail
      obtain ⟨wc, hwc⟩ : ∃ wc, w1.alloc (.cells #[.int .i64 0] 3) = wc := ⟨_, rfl⟩
      have hbc : Below w1.heap.size w1 wc := by rw [← hwc]; exact (Below.refl _ _).alloc (Nat.le_refl _) _
      have n0 : wc.cell? ⟨w1.heap.size, 0, none⟩ = some (.int .i64 0) := by rw [← hwc]; clear hwc; go_simp
      have m0 : wc.frozen? ⟨w1.heap.size, 0, none⟩ = false := by rw [← hwc]; clear hwc; go_simp
      have hsc : wc.heap.size = w1.heap.size + 1 := by rw [← hwc]; simp
      rw [hwc]
      clear hwc
      have p2 := p1.trans (hbc.mono (by omega))
      refine ⟨trivial, rfl, ?_⟩
      refine (callsIn_wide.2 (weekDays_any _ _ _ _)).mono ?_
      rintro e w3 ⟨hw3, rfl⟩
      have hb3 : Below wc.heap.size wc w3 := by rw [← hw3]; exact (Below.refl _ _).alloc (Nat.le_refl _) _
      have z0 : w3.cell? ⟨wc.heap.size, 0, none⟩ = some (.int .i64 L) := by rw [← hw3]; clear hw3; go_simp
      have z1 : w3.cell? ⟨wc.heap.size, 1, none⟩ = some (.slice ra rs.length rc) := by rw [← hw3]; clear hw3; go_simp
      have z2 : w3.cell? ⟨wc.heap.size, 2, none⟩ = some (.slice ca cs.length cc) := by rw [← hw3]; clear hw3; go_simp
      have hs3 : w3.heap.size = wc.heap.size + 1 := by rw [← hw3]; simp
      rw [hsc] at z0 z1 z2
      clear hw3
      have p3 := p2.trans (hb3.mono (by omega))
      rw [← hb3.cell (by simp; omega)] at n0
      rw [← hb3.frozen (by simp; omega)] at m0
      clear a0 a1 a2 b0 b1 b2
      gi_wp2_with fail
      refine wpIn_range (gf := 78) (lb := #[.pointer (some ⟨(w1.heap.size + 1), 0, none⟩)]) rfl (enters_of Try.func78 (by kernel_rfl) rfl)
        (weekDays_iter L ra rs rc ca cs cc (w1.heap.size + 1) w w3 h HVV.out (by omega) (fun b hlt => p3.block b hlt) z0 z1 z2)
        (fun b hh => by omega) (fun b _ => rfl) (fun _ => rfl)
        (fun pre W1 => W1.cell? ⟨w1.heap.size, 0, none⟩ = some (.int .i64 (lostN pre)) ∧ W1.frozen? ⟨w1.heap.size, 0, none⟩ = false ∧ Below w.heap.size w W1)
        (fun c pre W1 => False) ?hI ?hIx ?h0 ?round ?done ?stop
      case hI =>
        rintro p A B ⟨i2, i3, i6⟩ hK
        exact ⟨hK.cell i2 (by simp; omega), by rw [hK.frozen (cell_lt i2) (by simp; omega)]; exact i3, i6.trans (hK.below i6.size (fun b hb hh => by have : w3.heap.size ≤ b := hh; omega))⟩
      case hIx => exact fun c p A B hh _ => hh
      case h0 => exact ⟨n0, m0, p3⟩
      case round =>
        rintro l pre ⟨d, o⟩ W1 hsuf hs4 ⟨i2, i3, i6⟩ Wa K hK
        have hpl : pre.length < L.toNat := by
          obtain ⟨suf, hs⟩ := hsuf
          have := wd_len rs cs L.toNat
          rw [hs] at this
          simp at this
          omega
        have hcb := lostN_bd pre
        cases o with
        | true =>
          have HX := hid (show lostN (pre ++ [(d, true)]) = lostN pre by rw [lostN_snoc]; simp)
          gi_wp2
          exact ⟨Keeps.refl _ W1, by rw [HX.out]; exact i2, i3, i6⟩
        | false =>
          have HX := hid (show lostN (pre ++ [(d, false)]) = lostN pre + 1 by rw [lostN_snoc]; simp)
          gi_wp2
          have hcw := World.cell?_setCell_same' W1 ⟨w1.heap.size, 0, none⟩ (.int .i64 (lostN pre + 1)) (by rw [i2]; rfl)
          exact ⟨(Keeps.refl _ W1).setCell (.inl ⟨by simp; omega, by simp; omega⟩) _, by rw [HX.out]; exact hcw, by rw [World.frozen?_setCell]; exact i3, i6.setCell (by simp <;> omega) _⟩
      case done =>
        rintro W1 hs4 ⟨i2, i3, i6⟩ hD
        gi_wp2
        refine ⟨by simp, .inl ⟨_, _, rfl, run_takeDeferred hD, ?_⟩⟩
        exact ⟨_, results_tmp2 rfl _ _ _, i6.trans (putObj_below (by omega) _), (by rw [HM2.out]; rfl)⟩
      case stop => exact fun c pre W1 _ _ hh _ => hh.elim
    · have hk' : (k != 1) = true := by simp [hk]
      have HM2 := hid (show lostL L rs cs m f k = (0, 0) by rw [HM.out, if_pos hk])
      clear HM hk
      gi_wp2
      exact ⟨_, results_tmp2 rfl _ _ _, p1, (by rw [HM2.out]; rfl)⟩
  · have HM := hid (show lostL L rs cs m f k = (0, checkC L rs cs [(m, f, k)]) by rw [lostL, if_pos hz])
    have hz' : (checkC L rs cs [(m, f, k)] != 0) = true := by simp [hz]
    clear hz
    gi_wp2
    exact ⟨_, results_tmp2 rfl _ _ _, p1, (by rw [HM.out]; rfl)⟩

end Go.Proofs.Ytijfcifoemndeaa
