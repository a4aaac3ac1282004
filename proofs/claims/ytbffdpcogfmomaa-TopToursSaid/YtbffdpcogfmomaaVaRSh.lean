/- The document's Shortest: chapter 8. -/
import Derived.Test.YtbffdpcogfmomaaVaTo
import Derived.Test.YtbffdpcogfmomaaVaShort
import Derived.Test.YtbffdpcogfmomaaVaRL
set_option linter.unusedVariables false
namespace Go.Proofs.Ytbffdpcogfmomaa
open Go.RowKit

/-- The least length of the first k tours. -/
structure LeastTo (t : Tbl) (all : List (List Int)) (k : Nat) (m : Int) : Prop where
  has : ∃ f ∈ all, tourL t f = m
  low : ∀ j, j < k → m ≤ tourL t (rZ all j)
theorem LeastTo.short {t : Tbl} {m : Int} (h : LeastTo t (toursZ t.length) (toursZ t.length).length m) : IsShort t m := by
  refine ⟨?_, fun q hq => ?_⟩
  · obtain ⟨f, hf, e⟩ := h.has
    exact ⟨f, (toursZ_mem _ f).1 hf, e⟩
  · obtain ⟨i, hi, rfl⟩ := mem_rZ ((toursZ_mem _ q).2 hq)
    exact h.low i hi
/-- A row of the tours, as a list in memory. -/
theorem OrdT.ints {w : World} {base : Nat} {v : Value} {T : List (List Int)} (h : OrdT w base v T) (i : Nat) (hi : i < T.length) (hl : (rZ T i).length ≤ 1000) (hb : ∀ x ∈ rZ T i, -9223372036854775808 ≤ x ∧ x ≤ 9223372036854775807) :
    ∃ g c A d, v = .slice (some ⟨g, 0, none⟩) T.length c ∧ w.cell? ⟨g, i, none⟩ = some (.slice A (rZ T i).length d) ∧ Ints w A (rZ T i) := by
  obtain ⟨g, c, A, d, hv, hc, ho⟩ := h.row i hi
  obtain ⟨a, cap, e, hI⟩ := ho.ints (by omega) hb
  simp only [Value.slice.injEq, true_and] at e
  obtain ⟨rfl, _⟩ := e
  exact ⟨g, c, A, d, hv, hc, hI⟩
theorem tour_bd {o : List Int} {n : Nat} (h : IsTour o n) (hn : n ≤ 7) : o.length ≤ 1000 ∧ ∀ x ∈ o, -9223372036854775808 ≤ x ∧ x ≤ 9223372036854775807 := by
  refine ⟨by rw [h.len]; omega, fun x hx => ?_⟩
  have := h.mem hx
  omega
set_option maxRecDepth 100000 in
set_option maxHeartbeats 4000000 in
theorem rShortest_any (a : Option Addr) (t : Tbl) (cap : Nat) (w : World) (h : TabAt w a t) : Calls Try.prog 25 #[.slice a t.length cap] w (NumE w (IsShort t) (vaV t)) := by
  have HV := hid (rValidate_any a t cap w h)
  by_cases hv : vaV t = 0
  · have ht := (ways_iff t).1 hv
    have hl7 := ht.len
    have hpos := ht.pos
    rw [hv] at HV ⊢
    have HTo := hid (fun (W : World) => rTours_any a t.length cap W hpos hl7)
    have HLn := hid (fun (A : Option Addr) (o : List Int) (c : Nat) (W : World) (hb : Below w.heap.size w W) (hI : Ints W A o) (ho : IsTour o t.length) => rLen_any a A t o cap c W (h.below hb) hI ht ho.stops (by rw [ho.len]; omega))
    have hTl := toursZ_len t.length
    have hfz := fz_le (t.length - 1) (by omega)
    have hp := toursZ_pos t.length
    have HSh := hid (fun (m : Int) hm => LeastTo.short (t := t) (m := m) hm)
    have HMem := hid (toursZ_mem t.length)
    obtain ⟨all, hall⟩ : ∃ all, toursZ t.length = all := ⟨_, rfl⟩
    have HAll := hid hall
    rw [hall] at hTl hp HSh HMem
    obtain ⟨L, hL⟩ : ∃ L, all.length = L := ⟨_, rfl⟩
    have HL := hid hL
    rw [hL] at hTl hp HSh
    have hL5 : L ≤ 5040 := by omega
    have HT7 := hid hl7
    clear h hv ht hTl hfz hall hL hpos
    go_enter Try.func25, Try.ntmps25
    go_wp2_with fail
    refine HV.out.mono ?_
    rintro e w1 ⟨hb1, rfl⟩
    have HB1 := hid hb1
    clear hb1 HV
    go_wp2_with fail
    refine (HTo.out _).mono ?_
    rintro e w2 ⟨hb2, A, c2, rfl, hO⟩
    rw [HAll.out, HL.out] at hO ⊢
    have HB2 := hid (HB1.out.trans (hb2.mono HB1.out.size))
    have HO := hid hO
    clear hb2 hO HTo
    have HRow := hid (fun (i : Nat) (hi : i < L) (W : World) (hb : Below w2.heap.size w2 W) => (show IsTour (rZ all i) t.length ∧ ∃ g A2 d, A = some ⟨g, 0, none⟩ ∧ W.cell? ⟨g, i, none⟩ = some (.slice A2 (rZ all i).length d) ∧ Ints W A2 (rZ all i) from by
      have hT := (HMem.out (rZ all i)).1 (rZ_mem (by rw [HL.out]; exact hi))
      obtain ⟨b1, b2⟩ := tour_bd hT HT7.out
      obtain ⟨g, c, A2, d, hv, hc, hI⟩ := (HO.out.below hb).ints i (by rw [HL.out]; exact hi) b1 b2
      simp only [Value.slice.injEq] at hv
      exact ⟨hT, g, A2, d, hv.1, hc, hI⟩))
    obtain ⟨hT0, g, A0, d0, hA, c0, hI0⟩ := HRow.out 0 (by omega) w2 (Below.refl _ _)
    subst hA
    have HC0 := hid (HLn.out A0 _ d0 w2 HB2.out hI0 hT0)
    have HL0 := hid (show LeastTo t all 1 (tourL t (rZ all 0)) from ⟨⟨_, rZ_mem (by rw [HL.out]; omega), rfl⟩, fun j hj => by rw [show j = 0 by omega]; exact Int.le_refl _⟩)
    obtain ⟨m0, hm0⟩ : ∃ m0, tourL t (rZ all 0) = m0 := ⟨_, rfl⟩
    rw [hm0] at HC0 HL0
    have q0 : (0 : Int) < (L : Int) := by omega
    obtain ⟨n0, hn0⟩ : ∃ n0, (rZ all 0).length = n0 := ⟨_, rfl⟩
    rw [hn0] at HC0 c0
    clear hm0 hn0 hI0 hT0
    go_wp2_with fail
    refine HC0.out.mono ?_
    rintro e w3 ⟨hb3, rfl⟩
    have HB3 := hid (HB2.out.trans (hb3.mono HB2.out.size))
    have HX3 := hid hb3
    clear hb3 HC0 c0
    go_wp2_with fail
    go_loopw [6, 7] (fun u v wr => ∃ (m : Int) (i : Nat), 1 ≤ i ∧ i ≤ L ∧ u = .int .i64 m ∧ v = .int .i64 (i : Int) ∧ Hid (LeastTo t all i m) ∧ Hid (Below w.heap.size w wr) ∧ Hid (Below w2.heap.size w2 wr)) (fun _ v _ => L - (intOf v).toNat)
    case atStart => exact ⟨m0, 1, Nat.le_refl _, hp, rfl, rfl, HL0, HB3, HX3⟩
    case round =>
      obtain ⟨m, i, h1, hi, rfl, rfl, HLe, HB, HX⟩ := hrel
      clear HL0 HB3 HX3
      by_cases hlt : i < L
      · obtain ⟨hT0, g', A2, d2, hA, c0, hI0⟩ := HRow.out i hlt wr HX.out
        simp only [Option.some.injEq, Addr.mk.injEq, and_true] at hA
        subst hA
        have HC := hid (HLn.out A2 _ d2 wr HB.out hI0 hT0)
        have HMm := hid (rZ_mem (T := all) (i := i) (by rw [HL.out]; exact hlt))
        obtain ⟨x, hx⟩ : ∃ x, tourL t (rZ all i) = x := ⟨_, rfl⟩
        have HXx := hid hx
        rw [hx] at HC
        obtain ⟨n0, hn0⟩ : ∃ n0, (rZ all i).length = n0 := ⟨_, rfl⟩
        rw [hn0] at HC c0
        have q1 : (i : Int) < (L : Int) := by omega
        clear hx hn0 hI0 hT0
        by_cases hxm : x < m
        · have HLe2 := hid (show LeastTo t all (i + 1) x from ⟨⟨_, HMm.out, HXx.out⟩, fun j hj => by
            rcases Nat.lt_or_ge j i with h | h
            · have := HLe.out.low j h; omega
            · rw [show j = i by omega, HXx.out]; exact Int.le_refl _⟩)
          have hmin : min m x = x := Int.min_eq_right (by omega)
          as_aux_lemma =>
            go_wp2_with fail
            refine HC.out.mono ?_
            rintro e w4 ⟨hb4, rfl⟩
            have HB4 := hid (HB.out.trans (hb4.mono HB.out.size))
            have HX4 := hid (HX.out.trans (hb4.mono HX.out.size))
            clear hb4 HC c0
            go_wp2_with fail
            go_roundw
            case rel => exact ⟨x, i + 1, by omega, by omega, by first | rfl | rw [hmin], by go_num, HLe2, HB4, HX4⟩
            case measure => simp [intOf]; omega
        · have HLe2 := hid (show LeastTo t all (i + 1) m from ⟨HLe.out.has, fun j hj => by
            rcases Nat.lt_or_ge j i with h | h
            · exact HLe.out.low j h
            · rw [show j = i by omega, HXx.out]; omega⟩)
          have hmin : min m x = m := Int.min_eq_left (by omega)
          as_aux_lemma =>
            go_wp2_with fail
            refine HC.out.mono ?_
            rintro e w4 ⟨hb4, rfl⟩
            have HB4 := hid (HB.out.trans (hb4.mono HB.out.size))
            have HX4 := hid (HX.out.trans (hb4.mono HX.out.size))
            clear hb4 HC c0
            go_wp2_with fail
            go_roundw
            case rel => exact ⟨m, i + 1, by omega, by omega, by first | rfl | rw [hmin], by go_num, HLe2, HB4, HX4⟩
            case measure => simp [intOf]; omega
      · obtain rfl : i = L := by omega
        as_aux_lemma =>
          go_wp2
          go_ret2
          exact ⟨HB.out, .inr ⟨rfl, m, rfl, HSh.out m HLe.out⟩⟩
  · have HE := hid hv
    obtain ⟨e0, he0⟩ : ∃ e0, vaV t = e0 := ⟨_, rfl⟩
    have HQ := hid he0
    rw [he0] at HV hv
    have hne : (e0 == 0) = false := by simp; exact hv
    have hnn : (e0 != 0) = true := by simp; exact hv
    clear h he0
    go_enter Try.func25, Try.ntmps25
    go_wp2_with fail
    refine HV.out.mono ?_
    rintro e w1 ⟨hb1, rfl⟩
    have HB1 := hid hb1
    clear hb1
    go_wp2
    go_ret2
    exact ⟨HB1.out, .inl ⟨HE.out, by rw [HQ.out]; rfl⟩⟩
end Go.Proofs.Ytbffdpcogfmomaa
