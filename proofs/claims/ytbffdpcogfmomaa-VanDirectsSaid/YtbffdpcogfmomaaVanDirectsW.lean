/- The walk of the law VanDirects. -/
import Derived.Test.YtbffdpcogfmomaaVaDiM
import Derived.Test.YtbffdpcogfmomaaVaCpG
import Derived.Test.YtbffdpcogfmomaaVaLg
set_option linter.unusedVariables false
namespace Go.Proofs.Ytbffdpcogfmomaa
open Go.RowKit

theorem dirR_good {t : Tbl} {w w' : World} {en : Ending} (hv : vaV t = 0) (h : DirR t w en w') : Below w.heap.size w w' ∧ ∃ B d, en = .returned (.tuple #[.slice B t.length d, .int .i64 0]) ∧ TabAt w' B (dirT t) := by
  refine ⟨h.1, ?_⟩
  rcases h.2 with ⟨hh, _⟩ | ⟨_, hh⟩
  · exact absurd hv hh
  · exact hh
theorem dirR_bad {t : Tbl} {w w' : World} {en : Ending} (hv : vaV t ≠ 0) (h : DirR t w en w') : Below w.heap.size w w' ∧ en = .returned (.tuple #[.slice none 0 0, .int .i64 (vaV t)]) := by
  refine ⟨h.1, ?_⟩
  rcases h.2 with ⟨_, hh⟩ | ⟨hh, _⟩
  · exact hh
  · exact absurd hh hv
theorem rdrR_good {t : Tbl} {w w' : World} {en : Ending} (hv : vaV t = 0) (h : RdrR t w en w') : Below w.heap.size w w' ∧ ∃ B d, en = .returned (.tuple #[.slice B t.length d, .int .i64 0]) ∧ TabAt w' B (dirT t) := by
  refine ⟨h.1, ?_⟩
  rcases h.2 with ⟨hh, _⟩ | ⟨_, hh⟩
  · exact absurd hv hh
  · rw [rd_dir ((ways_iff t).1 hv)] at hh; exact hh
theorem rdrR_bad {t : Tbl} {w w' : World} {en : Ending} (hv : vaV t ≠ 0) (h : RdrR t w en w') : Below w.heap.size w w' ∧ en = .returned (.tuple #[.slice none 0 0, .int .i64 (vaV t)]) := by
  refine ⟨h.1, ?_⟩
  rcases h.2 with ⟨_, hh⟩ | ⟨hh, _⟩
  · exact hh
  · exact absurd hh hv
theorem same_self8 {t : Tbl} {n : Nat} (hn : t.length = n) (a b : Option Addr) (ca cb : Nat) (W : World) (ha : TabAt W a t) (hb : TabAt W b t) : Calls Try.prog 40 #[.slice a n ca, .slice b n cb] W (fun en W' => Below W.heap.size W W' ∧ en = .returned (.bool true)) := by
  subst hn
  refine (sameTabB_any a b t t ca cb W ha hb).mono ?_
  rintro en W' ⟨⟨n, hn⟩, rfl⟩
  exact ⟨by rw [hn]; exact below_drewN (Below.refl _ _) n, by simp⟩
set_option maxRecDepth 100000 in
set_option maxHeartbeats 8000000 in
theorem vanDirects_walk (a A : Option Addr) (t : Tbl) (o : List Int) (cap c : Nat) (w : World) (h0 : t.length ≤ 9223372036854775807) (h : TabRaw w a t) (g0 : o.length ≤ 9223372036854775807) (g : o.length ≤ 140737488355328 → Ints w A o) :
  Calls Try.prog 9 #[.slice a t.length cap, .slice A o.length c] w (BoolR w true) := by
  have HLa := hid (large_any a t cap w h0 h)
  have HLo := hid (long8_any A o.length c w g0)
  have HKw := hid (fun (W : World) (hb : Below w.heap.size w W) => (known8_any W).mono (fun en W2 (hp : BoolR W true en W2) => (show BoolR w true en W2 from ⟨hb.trans (hp.1.mono hb.size), hp.2⟩)))
  cases hlg : largeB t with
  | true =>
    rw [hlg] at HLa
    clear h g hlg
    as_aux_lemma =>
      go_enter Try.func9, Try.ntmps9
      go_wp2_with fail
      refine HLa.out.mono ?_
      rintro e w1 ⟨rfl, rfl⟩
      go_wp2_with fail
      refine (HKw.out _ (Below.refl _ _)).mono ?_
      rintro e w9 ⟨hb, rfl⟩
      go_wp2
      go_ret
      exact ⟨hb, rfl⟩
  | false =>
    rw [hlg] at HLa
    by_cases hlo : 60 < o.length
    · rw [decide_eq_true hlo] at HLo
      clear h g hlg
      as_aux_lemma =>
        go_enter Try.func9, Try.ntmps9
        go_wp2_with fail
        refine HLa.out.mono ?_
        rintro e w1 ⟨rfl, rfl⟩
        go_wp2_with fail
        refine HLo.out.mono ?_
        rintro e w1 ⟨rfl, rfl⟩
        go_wp2_with fail
        refine (HKw.out _ (Below.refl _ _)).mono ?_
        rintro e w9 ⟨hb, rfl⟩
        go_wp2
        go_ret
        exact ⟨hb, rfl⟩
    · rw [decide_eq_false hlo] at HLo
      have hT := h.tab hlg
      have hI := g (by omega)
      have hol : o.length ≤ 60 := by omega
      obtain ⟨z1, z2⟩ := largeB_no hlg
      have H1 := hid (rCopy_any a t cap w hT z1 (fun r hr => by
        obtain ⟨i, hi, rfl⟩ := List.getElem_of_mem hr
        have := z2 i hi
        simpa [tR, hi] using this))
      have HT := hid hT
      have HI := hid hI
      have H4 := hid (fun (W : World) (hb : Below w.heap.size w W) => vIsDirect_any a t cap W (hT.below hb))
      have H5 := hid (fun (W : World) (hb : Below w.heap.size w W) => rIsDirect_any a t cap W (hT.below hb))
      have H7 := hid (fun (W : World) (hb : Below w.heap.size w W) (B : Option Addr) (d : Nat) (hB : TabAt W B t) => same_self8 rfl B a d cap W hB (hT.below hb))
      have H9 := hid (fun (W : World) (hb : Below w.heap.size w W) => vLengthP_any a A t o cap c W (hT.below hb) (hI.below hb) (by omega))
      unfold IsDR at H4 H5
      clear h g hlg hlo z1 z2
      by_cases hv : vaV t = 0
      · have hws := (ways_iff t).1 hv
        have H2 := hid (fun (W : World) (B : Option Addr) (d : Nat) (hB : TabAt W B t) => (vDirect_any B t d W hB).mono (fun en W2 hp => dirR_good hv hp))
        have H3 := hid (fun (W : World) (hb : Below w.heap.size w W) => (rDirect_any a t cap W (hT.below hb)).mono (fun en W2 hp => rdrR_good hv hp))
        have H6 := hid (fun (W : World) (B C : Option Addr) (d f : Nat) (hB : TabAt W B (dirT t)) (hC : TabAt W C (dirT t)) => same_self8 (dirT_len t) B C d f W hB hC)
        have H8 := hid (fun (W : World) (B : Option Addr) (d : Nat) (hB : TabAt W B (dirT t)) => by
          have := vIsDirect_any B (dirT t) d W hB
          unfold IsDR at this
          rw [dirT_dir hws, (ways_iff _).2 (dirT_ways hws), dirT_len] at this
          exact this)
        obtain ⟨u1, u2⟩ := dir_len hws o
        have H10 := hid (fun (W : World) (hb : Below w.heap.size w W) (B : Option Addr) (d : Nat) (hB : TabAt W B (dirT t)) => by
          have := vLengthP_any B A (dirT t) o d c W hB (hI.below hb) (by omega)
          rw [u1, dirT_len] at this
          exact this)
        rw [hv] at H4 H5
        clear hT hI hv hws u1
        generalize lenV8 (dirT t) o = v2 at *
        generalize lenV8 t o = v1 at *
        generalize lenE t o = e1 at *
        generalize dirT t = D at *
        generalize isDirV t = xb at *
        have hle := decide_eq_true u2
        as_aux_lemma =>
        go_enter Try.func9, Try.ntmps9
        go_wp2_with fail
        refine HLa.out.mono ?_
        rintro e w1 ⟨rfl, rfl⟩
        go_wp2_with fail
        refine HLo.out.mono ?_
        rintro e w1 ⟨rfl, rfl⟩
        go_wp2_with fail
        refine H1.out.mono ?_
        rintro e w2 ⟨hb2, B1, d1, rfl, hT1⟩
        have HB2 := hid hb2
        have HO2 := hid hT1
        clear hb2 hT1
        as_aux_lemma =>
        go_wp2_with fail
        refine (H2.out _ _ _ HO2.out).mono ?_
        rintro e w3 ⟨hb3, B2, d2, rfl, hT2⟩
        have HB3 := hid (HB2.out.trans (hb3.mono HB2.out.size))
        have HO3 := hid (HO2.out.below hb3)
        have HA3 := hid hT2
        clear hb3 hT2 HO2
        as_aux_lemma =>
        go_wp2_with fail
        refine (H3.out _ HB3.out).mono ?_
        rintro e w4 ⟨hb4, B3, d3, rfl, hT3⟩
        have HB4 := hid (HB3.out.trans (hb4.mono HB3.out.size))
        have HO4 := hid (HO3.out.below hb4)
        have HA4 := hid (HA3.out.below hb4)
        have HR4 := hid hT3
        clear hb4 hT3 HO3 HA3
        as_aux_lemma =>
        go_wp2_with fail
        refine (H4.out _ HB4.out).mono ?_
        rintro e w5 ⟨hb5, rfl⟩
        have HB5 := hid (HB4.out.trans (hb5.mono HB4.out.size))
        have HO5 := hid (HO4.out.below hb5)
        have HA5 := hid (HA4.out.below hb5)
        have HR5 := hid (HR4.out.below hb5)
        clear hb5 HO4 HA4 HR4
        go_wp2_with fail
        refine (H5.out _ HB5.out).mono ?_
        rintro e w6 ⟨hb6, rfl⟩
        have HB6 := hid (HB5.out.trans (hb6.mono HB5.out.size))
        have HO6 := hid (HO5.out.below hb6)
        have HA6 := hid (HA5.out.below hb6)
        have HR6 := hid (HR5.out.below hb6)
        clear hb6 HO5 HA5 HR5
        have hxx : (xb != xb) = false := by simp
        as_aux_lemma =>
        go_wp2_with fail
        refine (H6.out _ _ _ _ _ HA6.out HR6.out).mono ?_
        rintro e w7 ⟨hb7, rfl⟩
        have HB7 := hid (HB6.out.trans (hb7.mono HB6.out.size))
        have HO7 := hid (HO6.out.below hb7)
        have HA7 := hid (HA6.out.below hb7)
        clear hb7 HO6 HA6 HR6
        as_aux_lemma =>
        go_wp2_with fail
        refine (H7.out _ HB7.out _ _ HO7.out).mono ?_
        rintro e w8 ⟨hb8, rfl⟩
        have HB8 := hid (HB7.out.trans (hb8.mono HB7.out.size))
        have HA8 := hid (HA7.out.below hb8)
        clear hb8 HO7 HA7
        as_aux_lemma =>
        go_wp2_with fail
        refine (H8.out _ _ _ HA8.out).mono ?_
        rintro e w9 ⟨hb9, rfl⟩
        have HB9 := hid (HB8.out.trans (hb9.mono HB8.out.size))
        have HA9 := hid (HA8.out.below hb9)
        clear hb9 HA8
        as_aux_lemma =>
        go_wp2_with fail
        refine (H9.out _ HB9.out).mono ?_
        rintro e w10 ⟨hb10, rfl⟩
        have HB10 := hid (HB9.out.trans (hb10.mono HB9.out.size))
        have HA10 := hid (HA9.out.below hb10)
        clear hb10 HA9
        have hee : (e1 == e1) = true := by simp
        as_aux_lemma =>
        go_wp2_with fail
        refine (H10.out _ HB10.out _ _ HA10.out).mono ?_
        rintro e w11 ⟨hb11, rfl⟩
        have HB11 := hid (HB10.out.trans (hb11.mono HB10.out.size))
        clear hb11 HA10
        as_aux_lemma =>
        go_wp2_with fail
        refine (HKw.out _ HB11.out).mono ?_
        rintro e w12 ⟨hb, rfl⟩
        go_wp2
        go_ret
        exact ⟨hb, rfl⟩
      · have H2 := hid (fun (W : World) (B : Option Addr) (d : Nat) (hB : TabAt W B t) => (vDirect_any B t d W hB).mono (fun en W2 hp => dirR_bad hv hp))
        have H3 := hid (fun (W : World) (hb : Below w.heap.size w W) => (rDirect_any a t cap W (hT.below hb)).mono (fun en W2 hp => rdrR_bad hv hp))
        have H6 := hid (fun (W : World) => same_self8 (t := []) rfl none none 0 0 W ⟨by simp, .inl rfl⟩ ⟨by simp, .inl rfl⟩)
        obtain ⟨e0, he0⟩ : ∃ e0, vaV t = e0 := ⟨_, rfl⟩
        rw [he0] at H2 H3 H4 H5 hv
        have hne : (e0 == 0) = false := by simp; exact hv
        have hnn : (e0 != 0) = true := by simp; exact hv
        have hee : (e0 != e0) = false := by simp
        clear hT hI hv he0 H9
        generalize isDirV t = xb at *
        as_aux_lemma =>
        go_enter Try.func9, Try.ntmps9
        go_wp2_with fail
        refine HLa.out.mono ?_
        rintro e w1 ⟨rfl, rfl⟩
        go_wp2_with fail
        refine HLo.out.mono ?_
        rintro e w1 ⟨rfl, rfl⟩
        go_wp2_with fail
        refine H1.out.mono ?_
        rintro e w2 ⟨hb2, B1, d1, rfl, hT1⟩
        have HB2 := hid hb2
        have HO2 := hid hT1
        clear hb2 hT1
        as_aux_lemma =>
        go_wp2_with fail
        refine (H2.out _ _ _ HO2.out).mono ?_
        rintro e w3 ⟨hb3, rfl⟩
        have HB3 := hid (HB2.out.trans (hb3.mono HB2.out.size))
        have HO3 := hid (HO2.out.below hb3)
        clear hb3 HO2
        as_aux_lemma =>
        go_wp2_with fail
        refine (H3.out _ HB3.out).mono ?_
        rintro e w4 ⟨hb4, rfl⟩
        have HB4 := hid (HB3.out.trans (hb4.mono HB3.out.size))
        have HO4 := hid (HO3.out.below hb4)
        clear hb4 HO3
        as_aux_lemma =>
        go_wp2_with fail
        refine (H4.out _ HB4.out).mono ?_
        rintro e w5 ⟨hb5, rfl⟩
        have HB5 := hid (HB4.out.trans (hb5.mono HB4.out.size))
        have HO5 := hid (HO4.out.below hb5)
        clear hb5 HO4
        go_wp2_with fail
        refine (H5.out _ HB5.out).mono ?_
        rintro e w6 ⟨hb6, rfl⟩
        have HB6 := hid (HB5.out.trans (hb6.mono HB5.out.size))
        have HO6 := hid (HO5.out.below hb6)
        clear hb6 HO5
        have hxx : (xb != xb) = false := by simp
        as_aux_lemma =>
        go_wp2_with fail
        refine (H6.out _).mono ?_
        rintro e w7 ⟨hb7, rfl⟩
        have HB7 := hid (HB6.out.trans (hb7.mono HB6.out.size))
        have HO7 := hid (HO6.out.below hb7)
        clear hb7 HO6
        as_aux_lemma =>
        go_wp2_with fail
        refine (H7.out _ HB7.out _ _ HO7.out).mono ?_
        rintro e w8 ⟨hb8, rfl⟩
        have HB8 := hid (HB7.out.trans (hb8.mono HB7.out.size))
        clear hb8 HO7
        as_aux_lemma =>
        go_wp2_with fail
        refine (HKw.out _ HB8.out).mono ?_
        rintro e w12 ⟨hb, rfl⟩
        go_wp2
        go_ret
        exact ⟨hb, rfl⟩
end Go.Proofs.Ytbffdpcogfmomaa
