/- The walk of the law VanImproves. -/
import Derived.Test.YtbffdpcogfmomaaVanShortestW
import Derived.Test.YtbffdpcogfmomaaVaIm
import Derived.Test.YtbffdpcogfmomaaVaBRW
set_option linter.unusedVariables false
namespace Go.Proofs.Ytbffdpcogfmomaa
open Go.RowKit

theorem impQ_bad {t : Tbl} {p : List Int} {w w' : World} {en : Ending} (he : ptE t p ≠ 0) (h : ImpQ t p w en w') : Below w.heap.size w w' ∧ en = .returned (.tuple #[.slice none 0 0, .int .i64 (ptE t p)]) := by
  refine ⟨h.1, ?_⟩
  rcases h.2 with ⟨_, h⟩ | ⟨h, _⟩
  · exact h
  · exact absurd h he
theorem impQ_good {t : Tbl} {p : List Int} {w w' : World} {en : Ending} (he : ptE t p = 0) (h : ImpQ t p w en w') : Below w.heap.size w w' ∧ ∃ A c q B, en = .returned (.tuple #[.slice A t.length c, .int .i64 0]) ∧ Ints w' A q ∧ Pots q t.length ∧ BoundIs t q B ∧ (∀ B0, BoundIs t p B0 → B0 ≤ B) ∧ ∀ B0, BoundIs t (zeros8 t) B0 → B0 ≤ B := by
  refine ⟨h.1, ?_⟩
  rcases h.2 with ⟨h, _⟩ | ⟨_, h⟩
  · exact absurd he h
  · exact h
set_option maxRecDepth 100000 in
set_option maxHeartbeats 8000000 in
theorem vanImproves_walk (a A : Option Addr) (t : Tbl) (o : List Int) (cap c : Nat) (w : World) (h0 : t.length ≤ 9223372036854775807) (h : TabRaw w a t) (g0 : o.length ≤ 9223372036854775807) (g : o.length ≤ 140737488355328 → Ints w A o) :
  Calls Try.prog 8 #[.slice a t.length cap, .slice A o.length c] w (BoolR w true) := by
  have HLa := hid (large_any a t cap w h0 h)
  have HLo := hid (long8_any A o.length c w g0)
  have HKw := hid (fun (W : World) (hb : Below w.heap.size w W) => (known8_any W).mono (fun en W2 (hp : BoolR W true en W2) => (show BoolR w true en W2 from ⟨hb.trans (hp.1.mono hb.size), hp.2⟩)))
  cases hlg : largeB t with
  | true =>
    rw [hlg] at HLa
    clear h g hlg
    as_aux_lemma =>
      go_enter Try.func8, Try.ntmps8
      go_wp2_with fail
      refine HLa.out.mono ?_
      rintro e w1 ⟨rfl, rfl⟩
      go_wp2_with fail
      refine (HKw.out _ (Below.refl _ _)).mono ?_
      rintro e w9 ⟨hb, rfl⟩
      go_wp2
      go_ret
      exact ⟨hb, rfl⟩
  | false =>
    rw [hlg] at HLa
    by_cases hlo : 60 < o.length
    · rw [decide_eq_true hlo] at HLo
      clear h g hlg
      as_aux_lemma =>
        go_enter Try.func8, Try.ntmps8
        go_wp2_with fail
        refine HLa.out.mono ?_
        rintro e w1 ⟨rfl, rfl⟩
        go_wp2_with fail
        refine HLo.out.mono ?_
        rintro e w1 ⟨rfl, rfl⟩
        go_wp2_with fail
        refine (HKw.out _ (Below.refl _ _)).mono ?_
        rintro e w9 ⟨hb, rfl⟩
        go_wp2
        go_ret
        exact ⟨hb, rfl⟩
    · rw [decide_eq_false hlo] at HLo
      have hT := h.tab hlg
      have hI := g (by omega)
      have HT := hid hT
      have HI := hid hI
      clear h g hlg hT hI hlo
      by_cases hv : ptE t o = 0
      · obtain ⟨ht, h3, hp⟩ := (ptE_iff t o).1 hv
        have hva := (ways_iff t).2 ht
        have hl7 := ht.len
        have HV := hid hv
        have HWy := hid ht
        have hmk := make_ints t.length (by omega)
        have HMk := hid (fun (w1 : World) => (show Below w1.heap.size w1 (w1.alloc (.cells (List.replicate t.length (Value.int .i64 0)).toArray 3)) ∧ Ints (w1.alloc (.cells (List.replicate t.length (Value.int .i64 0)).toArray 3)) (some ⟨w1.heap.size, 0, none⟩) (zeros8 t) from by
          have hx := (Below.refl w1.heap.size w1).alloc (Nat.le_refl _) (.cells (List.replicate t.length (Value.int .i64 0)).toArray 3)
          have hz : (w1.alloc (.cells (List.replicate t.length (Value.int .i64 0)).toArray 3)).heap[w1.heap.size]? = some (.cells (cellsV (List.replicate t.length 0)) 3 (0, 0)) := by rw [zerosV]; exact heap_alloc_new _ _
          exact ⟨hx, arrV_ints hz (by simp [zeros8]; omega) (fun x hx => by have := (List.mem_replicate.1 hx).2; omega)⟩))
        have HZp := hid (zeros_pots t.length)
        have H1 := hid (fun (W : World) (hb : Below w.heap.size w W) => (rBoundP_any a A t o cap c W (HT.out.below hb) (HI.out.below hb)).mono (fun en W2 hp => numE_good HV.out hp))
        have H2 := hid (fun (W : World) (hb : Below w.heap.size w W) => (vImprove_any a A t o cap c W (HT.out.below hb) (HI.out.below hb)).mono (fun en W2 hp => impQ_good HV.out hp))
        have H3 := hid (fun (W : World) (hb : Below w.heap.size w W) (D : Option Addr) (q : List Int) (d : Nat) (hq : Ints W D q) (hqp : Pots q t.length) => (show Calls Try.prog 33 #[.slice a t.length cap, .slice D t.length d] W (fun en W2 => Below W.heap.size W W2 ∧ ∃ v, en = .returned (.tuple #[.int .i64 v, .int .i64 0]) ∧ BoundIs t q v) from by
          have := (rBoundP_any a D t q cap d W (HT.out.below hb) hq).mono (fun en W2 hp => numE_good ((ptE_iff t q).2 ⟨HWy.out, h3, hqp⟩) hp)
          rw [hqp.len] at this
          exact this))
        have H4 := hid (fun (W : World) (hb : Below w.heap.size w W) => (rShortest_any a t cap W (HT.out.below hb)).mono (fun en W2 hp => numE_good hva hp))
        clear hv ht hp hva
        go_enter Try.func8, Try.ntmps8
        go_wp2_with fail
        refine HLa.out.mono ?_
        rintro e w1 ⟨rfl, rfl⟩
        go_wp2_with fail
        refine HLo.out.mono ?_
        rintro e w1 ⟨rfl, rfl⟩
        go_wp2_with fail
        refine (H1.out _ (Below.refl _ _)).mono ?_
        rintro e w2 ⟨hb2, B1, rfl, hB1⟩
        have HB2 := hid hb2
        have HBI1 := hid hB1
        clear hb2 hB1
        go_wp2_with fail
        refine (H2.out _ HB2.out).mono ?_
        rintro e w3 ⟨hb3, A3, c3, q, B, rfl, hIq, hPq, hBq, hg1, hg2⟩
        have HB3 := hid (HB2.out.trans (hb3.mono HB2.out.size))
        have HC3 := hid (H3.out w3 HB3.out A3 q c3 hIq hPq)
        have HPq := hid hPq
        have HBq := hid hBq
        have HG1 := hid hg1
        have HG2 := hid hg2
        clear hb3 hIq hPq hBq hg1 hg2
        go_wp2_with fail
        refine HC3.out.mono ?_
        rintro e w4 ⟨hb4, B4, rfl, hB4⟩
        obtain rfl := hB4.eq HBq.out
        have HB4 := hid (HB3.out.trans (hb4.mono HB3.out.size))
        obtain ⟨hx, hI4⟩ := HMk.out w4
        obtain ⟨w5, hw5⟩ : ∃ w5, w4.alloc (.cells (List.replicate t.length (Value.int .i64 0)).toArray 3) = w5 := ⟨_, rfl⟩
        rw [hw5] at hx hI4
        rw [show (List.replicate t.length (Value.int .i64 0)).toArray = Array.replicate t.length (Value.int .i64 0) by simp] at hw5
        have HB5 := hid (HB4.out.trans (hx.mono HB4.out.size))
        have HC5 := hid (H3.out w5 HB5.out _ _ t.length hI4 HZp.out)
        clear hb4 hB4 hx hI4 HC3 HMk
        go_wp2_with fail
        clear hw5 hmk
        refine HC5.out.mono ?_
        rintro e w6 ⟨hb6, B6, rfl, hB6⟩
        have HB6 := hid (HB5.out.trans (hb6.mono HB5.out.size))
        have HBI6 := hid hB6
        clear hb6 hB6 HC5
        go_wp2_with fail
        refine (H4.out _ HB6.out).mono ?_
        rintro e w7 ⟨hb7, m, rfl, hm⟩
        have HB7 := hid (HB6.out.trans (hb7.mono HB6.out.size))
        have d1 : B1 ≤ B4 := HG1.out B1 HBI1.out
        have d2 : B6 ≤ B4 := HG2.out B6 HBI6.out
        have d3 : B4 ≤ m := by
          obtain ⟨f, hf, e1⟩ := hm.1
          have := HBq.out.le HWy.out h3 HPq.out hf
          omega
        have d1' : decide (B1 ≤ B4) = true := decide_eq_true d1
        have d2' : decide (B6 ≤ B4) = true := decide_eq_true d2
        have d3' : decide (B4 ≤ m) = true := decide_eq_true d3
        clear hb7 hm
        go_wp2_with fail
        refine (HKw.out _ HB7.out).mono ?_
        rintro e w9 ⟨hb, rfl⟩
        go_wp2
        go_ret
        exact ⟨hb, rfl⟩
      · have HV := hid hv
        have H1 := hid (fun (W : World) (hb : Below w.heap.size w W) => (rBoundP_any a A t o cap c W (HT.out.below hb) (HI.out.below hb)).mono (fun en W2 hp => numE_bad HV.out hp))
        have H2 := hid (fun (W : World) (hb : Below w.heap.size w W) => (vImprove_any a A t o cap c W (HT.out.below hb) (HI.out.below hb)).mono (fun en W2 hp => impQ_bad HV.out hp))
        obtain ⟨e0, he0⟩ : ∃ e0, ptE t o = e0 := ⟨_, rfl⟩
        rw [he0] at H1 H2 hv
        have hne : (e0 == 0) = false := by simp; exact hv
        have hnn : (e0 != 0) = true := by simp; exact hv
        clear he0 hv
        go_enter Try.func8, Try.ntmps8
        go_wp2_with fail
        refine HLa.out.mono ?_
        rintro e w1 ⟨rfl, rfl⟩
        go_wp2_with fail
        refine HLo.out.mono ?_
        rintro e w1 ⟨rfl, rfl⟩
        go_wp2_with fail
        refine (H1.out _ (Below.refl _ _)).mono ?_
        rintro e w2 ⟨hb2, rfl⟩
        have HB2 := hid hb2
        clear hb2
        go_wp2_with fail
        refine (H2.out _ HB2.out).mono ?_
        rintro e w3 ⟨hb3, rfl⟩
        have HB3 := hid (HB2.out.trans (hb3.mono HB2.out.size))
        clear hb3
        go_wp2_with fail
        refine (HKw.out _ HB3.out).mono ?_
        rintro e w9 ⟨hb, rfl⟩
        go_wp2
        go_ret
        exact ⟨hb, rfl⟩
end Go.Proofs.Ytbffdpcogfmomaa
