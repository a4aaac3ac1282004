/- The Go function Served of package term. -/
import Derived.Test.YtijfcifoemndeaaDaysWith
import Derived.Test.YtijfcifoemndeaaDaysLawM
import Derived.Test.YtijfcifoemndeaaEvenM
import Derived.Test.YtijfcifoemndeaaDaysLaw
import Derived.Test.YtijfcifoemndeaaAppend
import Derived.Laws.OwnMore
import Derived.Deep.AppendLies
set_option linter.unusedVariables false
namespace Go.Proofs.Ytijfcifoemndeaa
open Go.RowKit Go.Shelf

attribute [local go_sem] Oper.semAt_some

def servedL (L : Int) (rs cs : List Int) (m f k : Int) : List Int × Int :=
  if checkC L rs cs [(m, f, k)] ≠ 0 then ([], checkC L rs cs [(m, f, k)]) else (srv m.toNat (mdays L rs cs m f k), 0)

theorem ownRow_keeps_at {U : Nat → Prop} {A B : World} {base : Nat} {e : TypeId} {s : Nat} {g n c : Nat} {xs : List Value} (h : A.ownsRow base e s (.slice (some ⟨g, 0, none⟩) n c) n xs) (hk : Keeps U A B) (hu : ¬ U g) : B.ownsRow base e s (.slice (some ⟨g, 0, none⟩) n c) n xs := by
  obtain ⟨h1, h2⟩ := h
  refine ⟨h1, ?_⟩
  rcases h2 with ⟨h2, _⟩ | ⟨g', cap, cur, hv, hg, hh, r⟩
  · simp at h2
  · simp only [Value.slice.injEq, Option.some.injEq, Addr.mk.injEq, and_true, true_and] at hv
    obtain ⟨rfl, rfl⟩ := hv
    exact .inr ⟨g, c, cur, rfl, hg, by rw [hk.block g (Array.getElem?_eq_some_iff.1 hh).1 hu]; exact hh, r⟩
theorem make_ints (n : Nat) (hn : n ≤ 1000000) : ∀ w : World, (Instr.makeSlice 22 (.int .i64 (n : Int)) (.int .i64 (n : Int))).run Try.prog w = .ok (.slice (some ⟨w.heap.size, 0, none⟩) n n) (w.alloc (.cells (List.replicate n (Value.int .i64 0)).toArray 3)) := by
  obtain ⟨i0, hi, hz0, hz1, hz2⟩ := info_parts int_info
  intro w
  have hr := run_make (P := Try.prog) w 22 3 i0 (.int .i64 0) Try.underlying22 hi hz0 .i64 .i64 n n (by omega) (by omega) (by rw [hz2]; omega) (by omega)
  simp only [Int.toNat_natCast, hz1, Nat.mul_one] at hr
  have e : madeCells (Value.int .i64 0).cells n = (List.replicate n (Value.int .i64 0)).toArray := Array.ext' (toList_madeCells_one _ _)
  rw [e] at hr
  exact hr

set_option maxRecDepth 100000 in
set_option maxHeartbeats 2000000 in
theorem served_err (L : Int) (ra : Option Addr) (rs : List Int) (rc : Nat) (ca : Option Addr) (cs : List Int) (cc : Nat) (m f k : Int) (w : World) (h : TermAt w L ra rs ca cs)
  (hz : checkC L rs cs [(m, f, k)] ≠ 0) :
  Calls Try.prog 35 #[.agg #[.int .i64 L, .slice ra rs.length rc, .slice ca cs.length cc], .agg #[.int .i64 m, .int .i64 f, .int .i64 k]] w (OwnERes w w.heap.size (servedL L rs cs m f k)) := by
  have HM := hid (show servedL L rs cs m f k = ([], checkC L rs cs [(m, f, k)]) by rw [servedL, if_pos hz])
  have hz' : (checkC L rs cs [(m, f, k)] != 0) = true := by simp [hz]
  clear hz
  refine (callsIn_wide (n := 0)).1 ?_
  refine callsIn_of_wp_marks Try.func35 rfl trivial ?_ rfl
  simp only [Try.ntmps35, List.size_toArray, List.length_cons, List.length_nil, Nat.reduceAdd, Nat.reduceSub, Array.replicate_succ, Array.replicate_zero, List.push_toArray, List.append_toArray, List.nil_append, List.cons_append]
  gi_wp2_with fail
  obtain ⟨wq, hwq⟩ : ∃ wq, (((w.alloc (.cells #[.int .i64 L, .slice ra rs.length rc, .slice ca cs.length cc] 24)).alloc (.cells #[.int .i64 m, .int .i64 f, .int .i64 k] 26)).alloc (.cells #[.int .i64 m, .int .i64 f, .int .i64 k] 26)) = wq := ⟨_, rfl⟩
  have q1 : Below w.heap.size w wq := by
    rw [← hwq]
    repeat (first | exact Below.refl _ _ | refine Below.alloc ?_ (by simp <;> omega) _)
  have hsz : wq.heap.size = w.heap.size + 1 + 1 + 1 := by rw [← hwq]; simp
  have hcy : Cycles wq (some ⟨w.heap.size + 1 + 1, 0, none⟩) [(m, f, k)] := by
    refine ⟨by simp, .inr ⟨_, _, rfl, fun i hi => ?_⟩⟩
    obtain rfl : i = 0 := by simp at hi; omega
    refine ⟨?_, ?_, ?_⟩ <;> (rw [← hwq]; clear hwq; go_simp)
  rw [hwq]
  clear hwq
  have hT := h.below q1
  refine ⟨trivial, rfl, ?_⟩
  refine (callsIn_wide.2 (check_any L ra rs rc ca cs cc _ [(m, f, k)] _ _ hT hcy)).mono ?_
  rintro e w1 ⟨hb, rfl⟩
  have p1 := q1.trans (hb.mono (by omega))
  have hs1 := hb.size
  gi_wp2
  exact ⟨_, results_tmp2 rfl _ _ _, p1, _, (by rw [HM.out]; rfl), by rw [HM.out]; exact Own.nil _ _⟩

set_option maxRecDepth 100000 in
set_option maxHeartbeats 4000000 in
theorem served_ok (L : Int) (ra : Option Addr) (rs : List Int) (rc : Nat) (ca : Option Addr) (cs : List Int) (cc : Nat) (n : Nat) (f k : Int) (w : World) (h : TermAt w L ra rs ca cs)
  (hz : checkC L rs cs [((n : Int), f, k)] = 0) :
  Calls Try.prog 35 #[.agg #[.int .i64 L, .slice ra rs.length rc, .slice ca cs.length cc], .agg #[.int .i64 n, .int .i64 f, .int .i64 k]] w (OwnERes w w.heap.size (servedL L rs cs n f k)) := by
  obtain ⟨hv, hvc⟩ := checkC_zero hz
  have hma := validC_ok hvc
  have hL2 := (validT_ok hv).2.1
  have HM := hid (show servedL L rs cs n f k = (srv n (mdays L rs cs n f k), 0) by rw [servedL, if_neg (by simp [hz])]; simp)
  have HZ := hid hz
  have HMK := hid (make_ints n (by omega))
  have HVal := hid (mst_vals rs cs n k f hma.2.2.2.2 hma.1 hma.2.2.1 hma.2.2.2.1 L.toNat)
  have hn1 := hma.1
  have hn2 := hma.2.1
  have HVV := hid hv
  have HVC := hid hvc
  clear hz hma hv hvc
  refine (callsIn_wide (n := 0)).1 ?_
  refine callsIn_of_wp_marks Try.func35 rfl trivial ?_ rfl
  simp only [Try.ntmps35, List.size_toArray, List.length_cons, List.length_nil, Nat.reduceAdd, Nat.reduceSub, Array.replicate_succ, Array.replicate_zero, List.push_toArray, List.append_toArray, List.nil_append, List.cons_append]
  gi_wp2_with fail
  obtain ⟨wq, hwq⟩ : ∃ wq, (((w.alloc (.cells #[.int .i64 L, .slice ra rs.length rc, .slice ca cs.length cc] 24)).alloc (.cells #[.int .i64 n, .int .i64 f, .int .i64 k] 26)).alloc (.cells #[.int .i64 n, .int .i64 f, .int .i64 k] 26)) = wq := ⟨_, rfl⟩
  have q1 : Below w.heap.size w wq := by
    rw [← hwq]
    repeat (first | exact Below.refl _ _ | refine Below.alloc ?_ (by simp <;> omega) _)
  have hsz : wq.heap.size = w.heap.size + 1 + 1 + 1 := by rw [← hwq]; simp
  have a0 : wq.cell? ⟨w.heap.size, 0, none⟩ = some (.int .i64 L) := by rw [← hwq]; clear hwq; go_simp
  have a1 : wq.cell? ⟨w.heap.size, 1, none⟩ = some (.slice ra rs.length rc) := by rw [← hwq]; clear hwq; go_simp
  have a2 : wq.cell? ⟨w.heap.size, 2, none⟩ = some (.slice ca cs.length cc) := by rw [← hwq]; clear hwq; go_simp
  have b0 : wq.cell? ⟨w.heap.size + 1, 0, none⟩ = some (.int .i64 n) := by rw [← hwq]; clear hwq; go_simp
  have b1 : wq.cell? ⟨w.heap.size + 1, 1, none⟩ = some (.int .i64 f) := by rw [← hwq]; clear hwq; go_simp
  have b2 : wq.cell? ⟨w.heap.size + 1, 2, none⟩ = some (.int .i64 k) := by rw [← hwq]; clear hwq; go_simp
  have hcy : Cycles wq (some ⟨w.heap.size + 1 + 1, 0, none⟩) [((n : Int), f, k)] := by
    refine ⟨by simp, .inr ⟨_, _, rfl, fun i hi => ?_⟩⟩
    obtain rfl : i = 0 := by simp at hi; omega
    refine ⟨?_, ?_, ?_⟩ <;> (rw [← hwq]; clear hwq; go_simp)
  rw [hwq]
  clear hwq
  have hT := h.below q1
  refine ⟨trivial, rfl, ?_⟩
  refine (callsIn_wide.2 (check_any L ra rs rc ca cs cc _ [((n : Int), f, k)] _ _ hT hcy)).mono ?_
  rintro e w1 ⟨hb, rfl⟩
  have p1 := q1.trans (hb.mono (by omega))
  have hs1 := hb.size
  rw [← hb.cell (by simp; omega)] at a0 a1 a2 b0 b1 b2
  rw [HZ.out]
  have hmk := HMK.out
  have g0 : w.heap.size < w1.heap.size := by omega
  have g1 : w.heap.size + 1 < w1.heap.size := by omega
  clear hcy hT hb q1
  gi_wp2_with fail
  obtain ⟨wc, hwc⟩ : ∃ wc, (w1.alloc (.cells (Array.replicate n (Value.int .i64 0)) 3)).alloc (.cells #[.slice (some ⟨w1.heap.size, 0, none⟩) n n] 22) = wc := ⟨_, rfl⟩
  have hbc : Below w1.heap.size w1 wc := by rw [← hwc]; exact ((Below.refl _ _).alloc (Nat.le_refl _) _).alloc (by simp) _
  have hown : wc.ownsRow w1.heap.size 3 1 (.slice (some ⟨w1.heap.size, 0, none⟩) n n) n ((srv n []).map (Value.int .i64)) := by
    rw [← hwc, srv_nil, List.map_replicate]
    have := (World.ownsRow_lit (base := w1.heap.size) (e := 3) (size := 1) w1 (Array.replicate n (Value.int .i64 0)) n (Nat.le_refl _) (by unfold maxLen; omega) (by simp)).alloc (.cells #[.slice (some ⟨w1.heap.size, 0, none⟩) n n] 22)
    simpa using this
  have n0 : wc.cell? ⟨w1.heap.size + 1, 0, none⟩ = some (.slice (some ⟨w1.heap.size, 0, none⟩) n n) := by rw [← hwc]; clear hwc hmk; go_simp
  have hsc : wc.heap.size = w1.heap.size + 1 + 1 := by rw [← hwc]; simp
  rw [← hbc.cell (by simp; omega)] at a0 a1 a2 b0 b1 b2
  rw [hwc]
  clear hwc hmk
  have p2 := p1.trans (hbc.mono (by omega))
  refine ⟨trivial, rfl, ?_⟩
  refine (callsIn_wide.2 (menus_any _ _ _ _ _ _ _)).mono ?_
  rintro e w3 ⟨hw3, rfl⟩
  have hb3 : Below wc.heap.size wc w3 := by rw [← hw3]; exact ((Below.refl _ _).alloc (Nat.le_refl _) _).alloc (by simp) _
  have z0 : w3.cell? ⟨wc.heap.size, 0, none⟩ = some (.int .i64 L) := by rw [← hw3]; clear hw3; go_simp
  have z1 : w3.cell? ⟨wc.heap.size, 1, none⟩ = some (.slice ra rs.length rc) := by rw [← hw3]; clear hw3; go_simp
  have z2 : w3.cell? ⟨wc.heap.size, 2, none⟩ = some (.slice ca cs.length cc) := by rw [← hw3]; clear hw3; go_simp
  have y0 : w3.cell? ⟨wc.heap.size + 1, 0, none⟩ = some (.int .i64 n) := by rw [← hw3]; clear hw3; go_simp
  have y1 : w3.cell? ⟨wc.heap.size + 1, 1, none⟩ = some (.int .i64 f) := by rw [← hw3]; clear hw3; go_simp
  have y2 : w3.cell? ⟨wc.heap.size + 1, 2, none⟩ = some (.int .i64 k) := by rw [← hw3]; clear hw3; go_simp
  have hs3 : w3.heap.size = wc.heap.size + 1 + 1 := by rw [← hw3]; simp
  rw [hsc] at z0 z1 z2 y0 y1 y2
  clear hw3
  have p3 := p2.trans (hb3.mono (by omega))
  have hown3 := own_below hown hb3
  rw [← hb3.cell (by simp; omega)] at n0
  clear hown a0 a1 a2 b0 b1 b2
  gi_wp2_with fail
  refine wpIn_range (gf := 77) (lb := #[.pointer (some ⟨w1.heap.size + 1 + 1 + 1, 0, none⟩), .pointer (some ⟨w1.heap.size + 1 + 1, 0, none⟩)]) rfl (enters_of Try.func77 (by kernel_rfl) rfl)
    (menus_iter L ra rs rc ca cs cc n f k (w1.heap.size + 1 + 1 + 1) (w1.heap.size + 1 + 1) w w3 h HVV.out HVC.out (by omega) (by omega) (fun b hlt => p3.block b hlt) z0 z1 z2 y0 y1 y2)
    (fun b hh => by omega) (fun b _ => rfl) (fun _ => rfl)
    (fun pre W1 => W1.cell? ⟨w1.heap.size + 1, 0, none⟩ = some (.slice (some ⟨w1.heap.size, 0, none⟩) n n) ∧ W1.ownsRow w1.heap.size 3 1 (.slice (some ⟨w1.heap.size, 0, none⟩) n n) n ((srv n pre).map (Value.int .i64)) ∧ Below w.heap.size w W1)
    (fun c pre W1 => False) ?hI ?hIx ?h0 ?round ?done ?stop
  case hI =>
    rintro p A B ⟨i0, i1, i6⟩ hK
    exact ⟨hK.cell i0 (by simp; omega), ownRow_keeps_at i1 hK (by have := hs3; omega), i6.trans (hK.below i6.size (fun b hb hh => by have : w3.heap.size ≤ b := hh; omega))⟩
  case hIx => exact fun c p A B hh _ => hh
  case h0 => exact ⟨n0, hown3, p3⟩
  case round =>
    rintro l pre ⟨d, y⟩ W1 hsuf hs4 ⟨i0, i1, i6⟩ Wa K hK
    have hy : 0 ≤ y ∧ y < (n : Int) := by
      obtain ⟨suf, hs⟩ := hsuf
      exact HVal.out (d, y) (by rw [hs]; simp)
    obtain ⟨v, rfl⟩ := Int.eq_ofNat_of_zero_le hy.1
    have hvn : v < n := by omega
    have hcb := cntM_bd (v : Int) pre
    have hpl : pre.length < L.toNat := by
      obtain ⟨suf, hs⟩ := hsuf
      have := mdays_len L rs cs n f k
      unfold mdays at this
      rw [hs] at this
      simp at this
      omega
    have c0 : W1.cell? ⟨w1.heap.size, v, none⟩ = some (.int .i64 (cntM (v : Int) pre)) := by
      rw [i1.cellAt _ (by omega)]
      have := srv_at n pre v hvn
      simp [srv, hvn]
    have f0 := i1.frozenAt v
    have HQ := hid (srv_snoc n pre d v hvn)
    have hgl := cell_lt c0
    clear hsuf hy
    gi_wp2
    refine ⟨(Keeps.refl _ W1).setCell (.inl ⟨by simp; omega, by simp; omega⟩) _, by go_simp, ?_, i6.setCell (by simp; omega) _⟩
    rw [HQ.out, List.map_set]
    exact (i1.stored v _).1
  case done =>
    rintro W1 hs4 ⟨i0, i1, i6⟩ hD
    gi_wp2
    refine ⟨by simp, .inl ⟨_, _, rfl, run_takeDeferred hD, ?_⟩⟩
    refine ⟨_, results_tmp2 rfl _ _ _, i6.trans (putObj_below (by omega) _), _, by rw [HM.out]; rfl, ?_⟩
    rw [HM.out]
    unfold Own
    dsimp only
    rw [srv_len]
    exact own_weak (ownRow_keeps_at i1 ((Keeps.refl (· = w3.heap.size) W1).putObj (.inl rfl) _) (fun hh => by have : w1.heap.size = w3.heap.size := hh; omega)) (show w.heap.size ≤ w1.heap.size by omega)
  case stop => exact fun c pre W1 _ _ hh _ => hh.elim

theorem served_any (L : Int) (ra : Option Addr) (rs : List Int) (rc : Nat) (ca : Option Addr) (cs : List Int) (cc : Nat) (m f k : Int) (w : World) (h : TermAt w L ra rs ca cs) :
  Calls Try.prog 35 #[.agg #[.int .i64 L, .slice ra rs.length rc, .slice ca cs.length cc], .agg #[.int .i64 m, .int .i64 f, .int .i64 k]] w (OwnERes w w.heap.size (servedL L rs cs m f k)) := by
  by_cases hz : checkC L rs cs [(m, f, k)] = 0
  · obtain ⟨n, rfl⟩ : ∃ n : Nat, m = n := ⟨m.toNat, by have := (validC_ok (checkC_zero hz).2).1; omega⟩
    exact served_ok L ra rs rc ca cs cc n f k w h hz
  · exact served_err L ra rs rc ca cs cc m f k w h hz

end Go.Proofs.Ytijfcifoemndeaa
