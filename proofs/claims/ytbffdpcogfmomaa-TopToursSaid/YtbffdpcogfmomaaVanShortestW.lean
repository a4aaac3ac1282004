/- The walk of the law VanShortest. -/
import Derived.Test.YtbffdpcogfmomaaVaRSh
import Derived.Test.YtbffdpcogfmomaaVaLg
set_option linter.unusedVariables false
namespace Go.Proofs.Ytbffdpcogfmomaa
open Go.RowKit

theorem numE_bad {P : Int → Prop} {w w' : World} {e : Int} {en : Ending} (he : e ≠ 0) (h : NumE w P e en w') : Below w.heap.size w w' ∧ en = .returned (.tuple #[.int .i64 0, .int .i64 e]) := by
  refine ⟨h.1, ?_⟩
  rcases h.2 with ⟨_, h⟩ | ⟨h, _⟩
  · exact h
  · exact absurd h he
theorem numE_good {P : Int → Prop} {w w' : World} {e : Int} {en : Ending} (he : e = 0) (h : NumE w P e en w') : Below w.heap.size w w' ∧ ∃ v, en = .returned (.tuple #[.int .i64 v, .int .i64 0]) ∧ P v := by
  refine ⟨h.1, ?_⟩
  rcases h.2 with ⟨h, _⟩ | ⟨_, h⟩
  · exact absurd he h
  · exact h
theorem tourR_bad {t : Tbl} {w w' : World} {en : Ending} (he : vaV t ≠ 0) (h : TourR t w en w') : Below w.heap.size w w' ∧ en = .returned (.tuple #[.slice none 0 0, .int .i64 (vaV t)]) := by
  refine ⟨h.1, ?_⟩
  rcases h.2 with ⟨_, h⟩ | ⟨h, _⟩
  · exact h
  · exact absurd h he
theorem tourR_good {t : Tbl} {w w' : World} {en : Ending} (he : vaV t = 0) (h : TourR t w en w') : Below w.heap.size w w' ∧ ∃ F c f, en = .returned (.tuple #[.slice F f.length c, .int .i64 0]) ∧ Ints w' F f ∧ IsTour f t.length ∧ IsShort t (tourL t f) := by
  refine ⟨h.1, ?_⟩
  rcases h.2 with ⟨h, _⟩ | ⟨_, F, c, f, h1, h2, h3, h4⟩
  · exact absurd he h
  · exact ⟨F, c, f, h1, h2, h3, ⟨f, h3, rfl⟩, h4⟩
theorem lenE_tour {t : Tbl} {o : List Int} (hv : vaV t = 0) (h : IsTour o t.length) : lenE t o = 0 ∧ lenV8 t o = tourL t o := by
  have h1 : lenE t o = 0 := by
    unfold lenE
    rw [if_pos hv]
    exact (tourE_iff o t.length).2 ⟨h.stops, h.nodup⟩
  exact ⟨h1, by unfold lenV8; rw [if_pos h1]⟩
set_option maxRecDepth 100000 in
set_option maxHeartbeats 8000000 in
theorem vanShortest_walk (a : Option Addr) (t : Tbl) (cap : Nat) (w : World) (h0 : t.length ≤ 9223372036854775807) (h : TabRaw w a t) :
  Calls Try.prog 4 #[.slice a t.length cap] w (BoolR w true) := by
  have HLa := hid (large_any a t cap w h0 h)
  have HKw := hid (fun (W : World) (hb : Below w.heap.size w W) => (known8_any W).mono (fun en W2 (hp : BoolR W true en W2) => (show BoolR w true en W2 from ⟨hb.trans (hp.1.mono hb.size), hp.2⟩)))
  cases hlg : largeB t with
  | true =>
    rw [hlg] at HLa
    clear h hlg
    as_aux_lemma =>
      go_enter Try.func4, Try.ntmps4
      go_wp2_with fail
      refine HLa.out.mono ?_
      rintro e w1 ⟨rfl, rfl⟩
      go_wp2_with fail
      refine (HKw.out _ (Below.refl _ _)).mono ?_
      rintro e w9 ⟨hb, rfl⟩
      go_wp2
      go_ret
      exact ⟨hb, rfl⟩
  | false =>
    rw [hlg] at HLa
    have hT := h.tab hlg
    have HT := hid hT
    clear h hlg hT
    by_cases hv : vaV t = 0
    · have hws := (ways_iff t).1 hv
      have hl7 := hws.len
      have hpos := hws.pos
      have HV := hid hv
      have H1 := hid (fun (W : World) (hb : Below w.heap.size w W) => (vShortest_any a t cap W (HT.out.below hb)).mono (fun en W2 hp => numE_good HV.out hp))
      have H2 := hid (fun (W : World) (hb : Below w.heap.size w W) => (rShortest_any a t cap W (HT.out.below hb)).mono (fun en W2 hp => numE_good HV.out hp))
      have H3 := hid (fun (W : World) (hb : Below w.heap.size w W) => (vTour_any a t cap W (HT.out.below hb)).mono (fun en W2 hp => tourR_good HV.out hp))
      have H4 := hid (fun (A : Option Addr) (o : List Int) (c : Nat) (W : World) (hb : Below w.heap.size w W) (hI : Ints W A o) (ho : IsTour o t.length) => rLengthP_any a A t o cap c W (HT.out.below hb) hI (by rw [ho.len]; omega))
      clear hws hv
      go_enter Try.func4, Try.ntmps4
      go_wp2_with fail
      refine HLa.out.mono ?_
      rintro e w1 ⟨rfl, rfl⟩
      go_wp2_with fail
      refine (H1.out _ (Below.refl _ _)).mono ?_
      rintro e w2 ⟨hb2, m, rfl, hm⟩
      have HB2 := hid hb2
      have HM := hid hm
      clear hb2 hm
      go_wp2_with fail
      refine (H2.out _ HB2.out).mono ?_
      rintro e w3 ⟨hb3, m', rfl, hm'⟩
      obtain rfl := hm'.eq HM.out
      have HB3 := hid (HB2.out.trans (hb3.mono HB2.out.size))
      clear hb3 hm'
      go_wp2_with fail
      refine (H3.out _ HB3.out).mono ?_
      rintro e w4 ⟨hb4, F, c, f, rfl, hI, hf, hs⟩
      have HB4 := hid (HB3.out.trans (hb4.mono HB3.out.size))
      have HC4 := hid (H4.out F f c w4 HB4.out hI hf)
      obtain ⟨e1, e2⟩ := lenE_tour HV.out hf
      rw [e1, e2, hs.eq HM.out] at HC4
      have hfl := hf.len
      obtain ⟨n1, hn1⟩ : ∃ n1, f.length = n1 := ⟨_, rfl⟩
      rw [hn1] at hfl HC4 ⊢
      have hd : ((n1 : Int) == (t.length : Int) - 1) = true := by simp; omega
      have hpos' : (1 : Int) ≤ (t.length : Int) := by omega
      clear hb4 hI hf hs e1 e2 hn1 hfl
      go_wp2_with fail
      refine HC4.out.mono ?_
      rintro e w5 ⟨hb5, rfl⟩
      have HB5 := hid (HB4.out.trans (hb5.mono HB4.out.size))
      clear hb5 HC4
      go_wp2_with fail
      refine (HKw.out _ HB5.out).mono ?_
      rintro e w9 ⟨hb, rfl⟩
      go_wp2
      go_ret
      exact ⟨hb, rfl⟩
    · have HV := hid hv
      have H1 := hid (fun (W : World) (hb : Below w.heap.size w W) => (vShortest_any a t cap W (HT.out.below hb)).mono (fun en W2 hp => numE_bad HV.out hp))
      have H2 := hid (fun (W : World) (hb : Below w.heap.size w W) => (rShortest_any a t cap W (HT.out.below hb)).mono (fun en W2 hp => numE_bad HV.out hp))
      have H3 := hid (fun (W : World) (hb : Below w.heap.size w W) => (vTour_any a t cap W (HT.out.below hb)).mono (fun en W2 hp => tourR_bad HV.out hp))
      obtain ⟨e0, he0⟩ : ∃ e0, vaV t = e0 := ⟨_, rfl⟩
      rw [he0] at H1 H2 H3 hv
      have hne : (e0 == 0) = false := by simp; exact hv
      have hnn : (e0 != 0) = true := by simp; exact hv
      clear he0 hv
      go_enter Try.func4, Try.ntmps4
      go_wp2_with fail
      refine HLa.out.mono ?_
      rintro e w1 ⟨rfl, rfl⟩
      go_wp2_with fail
      refine (H1.out _ (Below.refl _ _)).mono ?_
      rintro e w2 ⟨hb2, rfl⟩
      have HB2 := hid hb2
      clear hb2
      go_wp2_with fail
      refine (H2.out _ HB2.out).mono ?_
      rintro e w3 ⟨hb3, rfl⟩
      have HB3 := hid (HB2.out.trans (hb3.mono HB2.out.size))
      clear hb3
      go_wp2_with fail
      refine (H3.out _ HB3.out).mono ?_
      rintro e w4 ⟨hb4, rfl⟩
      have HB4 := hid (HB3.out.trans (hb4.mono HB3.out.size))
      clear hb4
      go_wp2_with fail
      refine (HKw.out _ HB4.out).mono ?_
      rintro e w9 ⟨hb, rfl⟩
      go_wp2
      go_ret
      exact ⟨hb, rfl⟩
end Go.Proofs.Ytbffdpcogfmomaa
