/- The walk of the law VanEarliest. -/
import Derived.Test.YtbffdpcogfmomaaVaTpC
import Derived.Test.YtbffdpcogfmomaaVaEr
set_option linter.unusedVariables false
namespace Go.Proofs.Ytbffdpcogfmomaa
open Go.RowKit

theorem earP_bad {t : Tbl} {l : List St} {b : Int} {w w' : World} {en : Ending} (he : drvE t l [] b ≠ 0) (h : EarP t l b w en w') : Below w.heap.size w w' ∧ en = .returned (.tuple #[.slice none 0 0, .int .i64 0, .bool false, .int .i64 (drvE t l [] b)]) := by
  refine ⟨h.1, ?_⟩
  rcases h.2 with ⟨_, h⟩ | ⟨h, _⟩
  · exact h
  · exact absurd h he
theorem earR_bad {t : Tbl} {l : List St} {b : Int} {w w' : World} {en : Ending} (he : drvE t l [] b ≠ 0) (h : EarR t l b w en w') : Below w.heap.size w w' ∧ en = .returned (.tuple #[.int .i64 0, .bool false, .int .i64 (drvE t l [] b)]) := by
  refine ⟨h.1, ?_⟩
  rcases h.2 with ⟨_, h⟩ | ⟨h, _⟩
  · exact h
  · exact absurd h he
theorem earP_ok {t : Tbl} {l : List St} {b : Int} {w w' : World} {en : Ending} (he : drvE t l [] b = 0) (h : EarP t l b w en w') : Below w.heap.size w w' ∧ ((IsEarl t l b none ∧ en = .returned (.tuple #[.slice none 0 0, .int .i64 0, .bool false, .int .i64 0])) ∨
      ∃ F c f, IsEarl t l b (some (backD t l f b)) ∧ IsTour f t.length ∧ inTB t l f b = true ∧ Ints w' F f ∧ en = .returned (.tuple #[.slice F f.length c, .int .i64 (backD t l f b), .bool true, .int .i64 0])) := by
  refine ⟨h.1, ?_⟩
  rcases h.2 with ⟨h, _⟩ | ⟨_, h⟩
  · exact absurd he h
  · exact h
theorem earR_ok {t : Tbl} {l : List St} {b : Int} {w w' : World} {en : Ending} {s : Option Int} (he : drvE t l [] b = 0) (hs : IsEarl t l b s) (h : EarR t l b w en w') : Below w.heap.size w w' ∧ en = .returned (.tuple #[.int .i64 (s.getD 0), .bool s.isSome, .int .i64 0]) := by
  refine ⟨h.1, ?_⟩
  rcases h.2 with ⟨h, _⟩ | ⟨_, s', h1, h2⟩
  · exact absurd he h
  · rw [hs.eq h1]; exact h2
theorem chk_tour {t : Tbl} {l : List St} {f : List Int} {b : Int} {w w' : World} {en : Ending} (he : drvE t l [] b = 0) (hf : IsTour f t.length) (hi : inTB t l f b = true) (h : ChkR t l f b w en w') : Below w.heap.size w w' ∧ en = .returned (.tuple #[.int .i64 (backD t l f b), .int .i64 0]) := by
  refine ⟨h.1, ?_⟩
  obtain ⟨ht, hl, _, _, hb⟩ := drvE_ok he
  have hto : touE t l f = 0 := by
    have h1 : touE t l [] = 0 := by
      by_cases hh : touE t l [] = 0
      · exact hh
      · rw [drvE_tou hh] at he; exact he
    rw [touE_nil] at h1
    unfold touE
    rw [if_pos h1]
    exact (tourE_iff f t.length).2 ⟨hf.stops, hf.nodup⟩
  have hz : zin b 0 10000 = true := by simp [zin]; omega
  rcases h.2 with ⟨hn, _⟩ | ⟨_, m, hm, hen⟩
  · exact absurd (drvE_zin hto hz) hn
  · have h2 := hm.inT
    rw [hi] at h2
    have hme : m = f.length := of_decide_eq_true h2.symm
    rw [hen, if_neg (by omega), if_neg (by omega)]
set_option maxRecDepth 100000 in
set_option maxHeartbeats 8000000 in
theorem vanEarliest_walk (a A B : Option Addr) (t : Tbl) (l : List St) (o : List Int) (b : Int) (cap c d : Nat) (w : World) (h0 : t.length ≤ 9223372036854775807) (h : TabRaw w a t) (l0 : l.length ≤ 9223372036854775807) (hs : l.length ≤ 140737488355328 → StsAt w A l) (o0 : o.length ≤ 9223372036854775807) (ho : o.length ≤ 140737488355328 → Ints w B o) (hbb : -9223372036854775808 ≤ b ∧ b ≤ 9223372036854775807) (hcap : l.length ≤ c) :
  Calls Try.prog 13 #[.slice a t.length cap, .agg #[.slice A l.length c, .slice B o.length d, .int .i64 b]] w (BoolR w true) := by
  have P0 := hid ((Below.refl w.heap.size w).alloc (Nat.le_refl _) (.cells #[.slice A l.length c, .slice B o.length d, .int .i64 b] 49))
  have K0 := heap_alloc_new w (.cells #[.slice A l.length c, .slice B o.length d, .int .i64 b] 49)
  have c0 := (three_all K0).1
  have c1 := (three_all K0).2.1
  have c2 := (three_all K0).2.2
  obtain ⟨w0, hw0⟩ : ∃ w0, w.alloc (.cells #[.slice A l.length c, .slice B o.length d, .int .i64 b] 49) = w0 := ⟨_, rfl⟩
  have HW0 := hid hw0
  rw [hw0] at P0 K0 c0 c1 c2
  have hz0 : w.heap.size ≤ w0.heap.size := P0.out.size
  have h2 : TabRaw w0 a t := fun hq => by
    rcases h hq with e | ⟨b1, o1, e, hc⟩
    · exact .inl e
    · refine .inr ⟨b1, o1, e, fun i hi => ?_⟩
      obtain ⟨A1, c1, g1, g2, g3⟩ := hc i hi
      exact ⟨A1, c1, (P0.out.cell (cell_lt g1)).trans g1, g2, fun hq => (g3 hq).below P0.out⟩
  have HLa := hid (large_any a t cap w0 h0 h2)
  have HLo := hid (many_any A B l.length o.length c d b w0 l0 o0)
  have HKw := hid (fun (W : World) (hb : Below w.heap.size w W) => (known8_any W).mono (fun en W2 (hp : BoolR W true en W2) => (show BoolR w true en W2 from ⟨hb.trans (hp.1.mono hb.size), hp.2⟩)))
  cases hlg : largeB t with
  | true =>
    rw [hlg] at HLa
    clear h hs ho h2 hlg hw0 K0 c0 c1 c2
    as_aux_lemma =>
      have hw0 := HW0.out
      go_enter Try.func13, Try.ntmps13
      go_wp2_with fail
      clear hw0
      refine HLa.out.mono ?_
      rintro e w1 ⟨rfl, rfl⟩
      go_wp2_with fail
      refine (HKw.out _ P0.out).mono ?_
      rintro e w9 ⟨hb, rfl⟩
      go_wp2
      go_ret
      exact ⟨hb, rfl⟩
  | false =>
    rw [hlg] at HLa
    by_cases hlo : (decide (60 < l.length) || decide (60 < o.length)) = true
    · rw [hlo] at HLo
      clear h hs ho h2 hlg hlo hw0 K0
      as_aux_lemma =>
        have hw0 := HW0.out
        go_enter Try.func13, Try.ntmps13
        go_wp2_with fail
        clear hw0
        refine HLa.out.mono ?_
        rintro e w1 ⟨rfl, rfl⟩
        go_wp2_with fail
        refine HLo.out.mono ?_
        rintro e w2 ⟨rfl, hb2⟩
        have HB2 := hid (P0.out.trans (hb2.mono hz0))
        clear hb2 c0 c1 c2
        go_wp2_with fail
        refine (HKw.out _ HB2.out).mono ?_
        rintro e w9 ⟨hb, rfl⟩
        go_wp2
        go_ret
        exact ⟨hb, rfl⟩
    · rw [Bool.not_eq_true] at hlo
      rw [hlo] at HLo
      have hl6 : l.length ≤ 60 ∧ o.length ≤ 60 := by simp at hlo; omega
      have hT := h2.tab hlg
      have hS := (hs (by omega)).below P0.out
      have hI := (ho (by omega)).below P0.out
      have HT := hid hT
      have HS := hid hS
      have HI := hid hI
      have HK0 := hid K0
      have hl := hl6.1
      have hol := hl6.2
      clear h hs ho h2 hlg hlo hw0 K0 c0 c1 c2 hl6 hT hS hI
      have H1 := hid (fun (W : World) (hb : Below w0.heap.size w0 W) => vEarliest_any a A t l b cap c W (HT.out.below hb) (HS.out.below hb) hcap)
      have H2 := hid (fun (W : World) (hb : Below w0.heap.size w0 W) => rEarliest_any a A t l b cap c W (HT.out.below hb) (HS.out.below hb))
      have H3 := hid (fun (W : World) (F : Option Addr) (f : List Int) (d : Nat) (hb : Below w0.heap.size w0 W) (hI : Ints W F f) (hf : f.length ≤ 100) => rCheck_any a A F t l f b cap c d W (HT.out.below hb) (HS.out.below hb) hI hf)
      clear HT HS HI hcap
      have hq : (∃ e0, e0 = drvE t l [] b ∧ e0 ≠ 0) ∨ drvE t l [] b = 0 := by
        by_cases h : drvE t l [] b = 0
        · exact .inr h
        · exact .inl ⟨_, rfl, h⟩
      rcases hq with ⟨e0, he0, hne⟩ | heq
      · subst he0
        have HNE := hid hne
        clear hne
        have c0 := (three_all HK0.out).1
        have c1 := (three_all HK0.out).2.1
        have c2 := (three_all HK0.out).2.2
        have hw0 := HW0.out
        go_enter Try.func13, Try.ntmps13
        go_wp2_with fail
        clear hw0
        refine HLa.out.mono ?_
        rintro e w1 ⟨rfl, rfl⟩
        go_wp2_with fail
        refine HLo.out.mono ?_
        rintro e w2 ⟨rfl, hb2⟩
        have HB2 := hid (P0.out.trans (hb2.mono hz0))
        have HX2 := hid hb2
        have HK2 := hid (blk_keep HK0.out hb2)
        have c0 := (three_all HK2.out).1
        have c1 := (three_all HK2.out).2.1
        have c2 := (three_all HK2.out).2.2
        clear hb2
        go_wp2_with fail
        refine (H1.out _ HX2.out).mono ?_
        intro e w3 hr3
        obtain ⟨hb3, rfl⟩ := earP_bad HNE.out hr3
        have HB3 := hid (HB2.out.trans (hb3.mono HB2.out.size))
        have HX3 := hid (HX2.out.trans (hb3.mono HX2.out.size))
        have HK3 := hid (blk_keep HK2.out hb3)
        have c0 := (three_all HK3.out).1
        have c1 := (three_all HK3.out).2.1
        have c2 := (three_all HK3.out).2.2
        clear hr3 hb3
        go_wp2_with fail
        refine (H2.out _ HX3.out).mono ?_
        intro e w4 hr4
        obtain ⟨hb4, rfl⟩ := earR_bad HNE.out hr4
        have HB4 := hid (HB3.out.trans (hb4.mono HB3.out.size))
        clear hr4 hb4
        generalize drvE t l [] b = e9 at *
        go_wp2_with fail
        refine (HKw.out _ HB4.out).mono ?_
        rintro e w9 ⟨hb, rfl⟩
        go_wp2
        go_ret
        exact ⟨hb, rfl⟩
      · have HEQ := hid heq
        clear heq
        have c0 := (three_all HK0.out).1
        have c1 := (three_all HK0.out).2.1
        have c2 := (three_all HK0.out).2.2
        have hw0 := HW0.out
        go_enter Try.func13, Try.ntmps13
        go_wp2_with fail
        clear hw0
        refine HLa.out.mono ?_
        rintro e w1 ⟨rfl, rfl⟩
        go_wp2_with fail
        refine HLo.out.mono ?_
        rintro e w2 ⟨rfl, hb2⟩
        have HB2 := hid (P0.out.trans (hb2.mono hz0))
        have HX2 := hid hb2
        have HK2 := hid (blk_keep HK0.out hb2)
        have c0 := (three_all HK2.out).1
        have c1 := (three_all HK2.out).2.1
        have c2 := (three_all HK2.out).2.2
        clear hb2
        go_wp2_with fail
        refine (H1.out _ HX2.out).mono ?_
        intro e w3 hr3
        obtain ⟨hb3, (⟨hE, rfl⟩ | ⟨F, cf, f, hE, hf, hi, hI, rfl⟩)⟩ := earP_ok HEQ.out hr3
        · have HB3 := hid (HB2.out.trans (hb3.mono HB2.out.size))
          have HX3 := hid (HX2.out.trans (hb3.mono HX2.out.size))
          have HK3 := hid (blk_keep HK2.out hb3)
          have HC3 := hid ((H2.out _ HX3.out).mono (fun en W hp => earR_ok HEQ.out hE hp))
          simp only [Option.getD_none, Option.isSome_none] at HC3
          have c0 := (three_all HK3.out).1
          have c1 := (three_all HK3.out).2.1
          have c2 := (three_all HK3.out).2.2
          clear hr3 hb3 hE
          go_wp2_with fail
          refine HC3.out.mono ?_
          rintro e w4 ⟨hb4, rfl⟩
          have HB4 := hid (HB3.out.trans (hb4.mono HB3.out.size))
          clear hb4 HC3
          go_wp2_with fail
          refine (HKw.out _ HB4.out).mono ?_
          rintro e w9 ⟨hb, rfl⟩
          go_wp2
          go_ret
          exact ⟨hb, rfl⟩
        · have HB3 := hid (HB2.out.trans (hb3.mono HB2.out.size))
          have HX3 := hid (HX2.out.trans (hb3.mono HX2.out.size))
          have HK3 := hid (blk_keep HK2.out hb3)
          have HC3 := hid ((H2.out _ HX3.out).mono (fun en W hp => earR_ok HEQ.out hE hp))
          simp only [Option.getD_some, Option.isSome_some] at HC3
          have c0 := (three_all HK3.out).1
          have c1 := (three_all HK3.out).2.1
          have c2 := (three_all HK3.out).2.2
          have HF := hid hf
          have HIn := hid hi
          have HI3 := hid hI
          have hfl := hf.len
          have hpos := (drvE_ok HEQ.out).1.pos
          have hl7 := (drvE_ok HEQ.out).1.len
          obtain ⟨n1, hn1⟩ : ∃ n1, f.length = n1 := ⟨_, rfl⟩
          have HN1 := hid hn1
          rw [hn1] at hfl ⊢
          have hd : ((n1 : Int) == (t.length : Int) - 1) = true := by simp; omega
          have hpos' : (1 : Int) ≤ (t.length : Int) := by omega
          have hn6 : n1 ≤ 6 := by omega
          have H4 := hid (fun (W : World) (hb : Below w0.heap.size w0 W) (hI : Ints W F f) => (show Calls Try.prog 47 #[.slice a t.length cap, .slice A l.length c, .slice F n1 cf, .int .i64 b] W (fun en W2 => Below W.heap.size W W2 ∧ en = .returned (.tuple #[.int .i64 (backD t l f b), .int .i64 0])) from by
            have := (H3.out W F f cf hb hI (by rw [HN1.out]; omega)).mono (fun en W2 hp => chk_tour HEQ.out HF.out HIn.out hp)
            rw [HN1.out] at this
            exact this))
          obtain ⟨bk, hbk⟩ : ∃ bk, backD t l f b = bk := ⟨_, rfl⟩
          rw [hbk] at HC3 H4 ⊢
          clear hr3 hb3 hE hf hi hI hn1 hfl hbk
          go_wp2_with fail
          refine HC3.out.mono ?_
          rintro e w4 ⟨hb4, rfl⟩
          have HB4 := hid (HB3.out.trans (hb4.mono HB3.out.size))
          have HX4 := hid (HX3.out.trans (hb4.mono HX3.out.size))
          have HK4 := hid (blk_keep HK3.out hb4)
          have HC4 := hid (H4.out w4 HX4.out (HI3.out.below hb4))
          have c0 := (three_all HK4.out).1
          have c1 := (three_all HK4.out).2.1
          have c2 := (three_all HK4.out).2.2
          clear hb4 HC3
          go_wp2_with fail
          refine HC4.out.mono ?_
          rintro e w5 ⟨hb5, rfl⟩
          have HB5 := hid (HB4.out.trans (hb5.mono HB4.out.size))
          clear hb5 HC4
          go_wp2_with fail
          refine (HKw.out _ HB5.out).mono ?_
          rintro e w9 ⟨hb, rfl⟩
          go_wp2
          go_ret
          exact ⟨hb, rfl⟩
end Go.Proofs.Ytbffdpcogfmomaa
