/- The walk of the law VanLatest. -/
import Derived.Test.YtbffdpcogfmomaaVaTp
import Derived.Test.YtbffdpcogfmomaaVaLb
set_option linter.unusedVariables false
namespace Go.Proofs.Ytbffdpcogfmomaa
open Go.RowKit

theorem lat_bad {t : Tbl} {l : List St} {o : List Int} {w w' : World} {en : Ending} (he : touE t l o ≠ 0) (h : LatR t l o w en w') : Below w.heap.size w w' ∧ en = .returned (.tuple #[.int .i64 0, .bool false, .int .i64 (touE t l o)]) := by
  refine ⟨h.1, ?_⟩
  rcases h.2 with ⟨_, h⟩ | ⟨h, _⟩
  · exact h
  · exact absurd h he
theorem lat_ok {t : Tbl} {l : List St} {o : List Int} {w w' : World} {en : Ending} (he : touE t l o = 0) (h : LatR t l o w en w') : Below w.heap.size w w' ∧ ∃ k : Nat, LateK t l o k ∧ en = .returned (.tuple #[.int .i64 (if 0 < k then (k : Int) - 1 else 0), .bool (decide (0 < k)), .int .i64 0]) := by
  refine ⟨h.1, ?_⟩
  rcases h.2 with ⟨h, _⟩ | ⟨_, h⟩
  · exact absurd he h
  · exact h
theorem chk_ok {t : Tbl} {l : List St} {o : List Int} {b : Int} {k : Nat} {w w' : World} {en : Ending} (he : touE t l o = 0) (hk : LateK t l o k) (h0 : 0 ≤ b) (hb : b < k) (h : ChkR t l o b w en w') : Below w.heap.size w w' ∧ en = .returned (.tuple #[.int .i64 (backD t l o b), .int .i64 0]) := by
  refine ⟨h.1, ?_⟩
  have hle := hk.le
  have hz : zin b 0 10000 = true := by simp [zin]; omega
  rcases h.2 with ⟨hn, _⟩ | ⟨_, m, hm, hen⟩
  · exact absurd (drvE_zin he hz) hn
  · have hi := hm.inT
    have ho := hk.ok b.toNat (by omega)
    rw [show ((b.toNat : Nat) : Int) = b by omega] at ho
    rw [ho] at hi
    have hme : m = o.length := of_decide_eq_true hi.symm
    rw [hen, if_neg (by omega), if_neg (by omega)]
set_option maxRecDepth 100000 in
set_option maxHeartbeats 8000000 in
theorem vanLatest_walk (a A B : Option Addr) (t : Tbl) (l : List St) (o : List Int) (b : Int) (cap c d : Nat) (w : World) (h0 : t.length ≤ 9223372036854775807) (h : TabRaw w a t) (l0 : l.length ≤ 9223372036854775807) (hs : l.length ≤ 140737488355328 → StsAt w A l) (o0 : o.length ≤ 9223372036854775807) (ho : o.length ≤ 140737488355328 → Ints w B o) (hbb : -9223372036854775808 ≤ b ∧ b ≤ 9223372036854775807) :
  Calls Try.prog 14 #[.slice a t.length cap, .agg #[.slice A l.length c, .slice B o.length d, .int .i64 b]] w (BoolR w true) := by
  have P0 := hid ((Below.refl w.heap.size w).alloc (Nat.le_refl _) (.cells #[.slice A l.length c, .slice B o.length d, .int .i64 b] 49))
  have K0 := heap_alloc_new w (.cells #[.slice A l.length c, .slice B o.length d, .int .i64 b] 49)
  have c0 := (three_all K0).1
  have c1 := (three_all K0).2.1
  have c2 := (three_all K0).2.2
  obtain ⟨w0, hw0⟩ : ∃ w0, w.alloc (.cells #[.slice A l.length c, .slice B o.length d, .int .i64 b] 49) = w0 := ⟨_, rfl⟩
  have HW0 := hid hw0
  rw [hw0] at P0 K0 c0 c1 c2
  have hz0 : w.heap.size ≤ w0.heap.size := P0.out.size
  have h2 : TabRaw w0 a t := fun hq => by
    rcases h hq with e | ⟨b1, o1, e, hc⟩
    · exact .inl e
    · refine .inr ⟨b1, o1, e, fun i hi => ?_⟩
      obtain ⟨A1, c1, g1, g2, g3⟩ := hc i hi
      exact ⟨A1, c1, (P0.out.cell (cell_lt g1)).trans g1, g2, fun hq => (g3 hq).below P0.out⟩
  have HLa := hid (large_any a t cap w0 h0 h2)
  have HLo := hid (many_any A B l.length o.length c d b w0 l0 o0)
  have HKw := hid (fun (W : World) (hb : Below w.heap.size w W) => (known8_any W).mono (fun en W2 (hp : BoolR W true en W2) => (show BoolR w true en W2 from ⟨hb.trans (hp.1.mono hb.size), hp.2⟩)))
  cases hlg : largeB t with
  | true =>
    rw [hlg] at HLa
    clear h hs ho h2 hlg hw0 K0 c0 c1 c2
    as_aux_lemma =>
      have hw0 := HW0.out
      go_enter Try.func14, Try.ntmps14
      go_wp2_with fail
      clear hw0
      refine HLa.out.mono ?_
      rintro e w1 ⟨rfl, rfl⟩
      go_wp2_with fail
      refine (HKw.out _ P0.out).mono ?_
      rintro e w9 ⟨hb, rfl⟩
      go_wp2
      go_ret
      exact ⟨hb, rfl⟩
  | false =>
    rw [hlg] at HLa
    by_cases hlo : (decide (60 < l.length) || decide (60 < o.length)) = true
    · rw [hlo] at HLo
      clear h hs ho h2 hlg hlo hw0 K0
      as_aux_lemma =>
        have hw0 := HW0.out
        go_enter Try.func14, Try.ntmps14
        go_wp2_with fail
        clear hw0
        refine HLa.out.mono ?_
        rintro e w1 ⟨rfl, rfl⟩
        go_wp2_with fail
        refine HLo.out.mono ?_
        rintro e w2 ⟨rfl, hb2⟩
        have HB2 := hid (P0.out.trans (hb2.mono hz0))
        clear hb2 c0 c1 c2
        go_wp2_with fail
        refine (HKw.out _ HB2.out).mono ?_
        rintro e w9 ⟨hb, rfl⟩
        go_wp2
        go_ret
        exact ⟨hb, rfl⟩
    · rw [Bool.not_eq_true] at hlo
      rw [hlo] at HLo
      have hl6 : l.length ≤ 60 ∧ o.length ≤ 60 := by simp at hlo; omega
      have hT := h2.tab hlg
      have hS := (hs (by omega)).below P0.out
      have hI := (ho (by omega)).below P0.out
      have HT := hid hT
      have HS := hid hS
      have HI := hid hI
      have HK0 := hid K0
      have hl := hl6.1
      have hol := hl6.2
      clear h hs ho h2 hlg hlo hw0 K0 c0 c1 c2 hl6 hT hS hI
      have H1 := hid (fun (W : World) (hb : Below w0.heap.size w0 W) => vLatest_any a A B t l o cap c d W (HT.out.below hb) (HS.out.below hb) (HI.out.below hb) (by omega))
      have H2 := hid (fun (W : World) (hb : Below w0.heap.size w0 W) => rLatest_any a A B t l o cap c d W (HT.out.below hb) (HS.out.below hb) (HI.out.below hb) (by omega))
      have H3 := hid (fun (W : World) (x : Int) (hb : Below w0.heap.size w0 W) => vCheck_any a A B t l o x cap c d W (HT.out.below hb) (HS.out.below hb) (HI.out.below hb) (by omega))
      have hq : (∃ e0, e0 = touE t l o ∧ e0 ≠ 0) ∨ touE t l o = 0 := by
        by_cases h : touE t l o = 0
        · exact .inr h
        · exact .inl ⟨_, rfl, h⟩
      clear HT HS HI
      rcases hq with ⟨e0, he0, hne⟩ | heq
      · subst he0
        have HNE := hid hne
        clear hne
        have c0 := (three_all HK0.out).1
        have c1 := (three_all HK0.out).2.1
        have c2 := (three_all HK0.out).2.2
        have hw0 := HW0.out
        go_enter Try.func14, Try.ntmps14
        go_wp2_with fail
        clear hw0
        refine HLa.out.mono ?_
        rintro e w1 ⟨rfl, rfl⟩
        go_wp2_with fail
        refine HLo.out.mono ?_
        rintro e w2 ⟨rfl, hb2⟩
        have HB2 := hid (P0.out.trans (hb2.mono hz0))
        have HX2 := hid hb2
        have HK2 := hid (blk_keep HK0.out hb2)
        have c0 := (three_all HK2.out).1
        have c1 := (three_all HK2.out).2.1
        have c2 := (three_all HK2.out).2.2
        clear hb2
        go_wp2_with fail
        refine (H1.out _ HX2.out).mono ?_
        intro e w3 hr3
        obtain ⟨hb3, rfl⟩ := lat_bad HNE.out hr3
        have HB3 := hid (HB2.out.trans (hb3.mono HB2.out.size))
        have HX3 := hid (HX2.out.trans (hb3.mono HX2.out.size))
        have HK3 := hid (blk_keep HK2.out hb3)
        have c0 := (three_all HK3.out).1
        have c1 := (three_all HK3.out).2.1
        have c2 := (three_all HK3.out).2.2
        clear hr3 hb3
        go_wp2_with fail
        refine (H2.out _ HX3.out).mono ?_
        intro e w4 hr4
        obtain ⟨hb4, rfl⟩ := lat_bad HNE.out hr4
        have HB4 := hid (HB3.out.trans (hb4.mono HB3.out.size))
        have HK4 := hid (blk_keep HK3.out hb4)
        have c0 := (three_all HK4.out).1
        have c1 := (three_all HK4.out).2.1
        have c2 := (three_all HK4.out).2.2
        clear hr4 hb4
        generalize touE t l o = e9 at *
        go_wp2_with fail
        refine (HKw.out _ HB4.out).mono ?_
        rintro e w9 ⟨hb, rfl⟩
        go_wp2
        go_ret
        exact ⟨hb, rfl⟩
      · have HEQ := hid heq
        clear heq
        have c0 := (three_all HK0.out).1
        have c1 := (three_all HK0.out).2.1
        have c2 := (three_all HK0.out).2.2
        have hw0 := HW0.out
        go_enter Try.func14, Try.ntmps14
        go_wp2_with fail
        clear hw0
        refine HLa.out.mono ?_
        rintro e w1 ⟨rfl, rfl⟩
        go_wp2_with fail
        refine HLo.out.mono ?_
        rintro e w2 ⟨rfl, hb2⟩
        have HB2 := hid (P0.out.trans (hb2.mono hz0))
        have HX2 := hid hb2
        have HK2 := hid (blk_keep HK0.out hb2)
        have c0 := (three_all HK2.out).1
        have c1 := (three_all HK2.out).2.1
        have c2 := (three_all HK2.out).2.2
        clear hb2
        go_wp2_with fail
        refine (H1.out _ HX2.out).mono ?_
        intro e w3 hr3
        obtain ⟨hb3, k, hk, rfl⟩ := lat_ok HEQ.out hr3
        have hkl := hk.le
        by_cases hk0 : 0 < k
        · rw [if_pos hk0, decide_eq_true hk0]
          have hz0 : (1 : Int) ≤ (k : Int) := by omega
          obtain ⟨z, hz⟩ : ∃ z, (k : Int) - 1 = z := ⟨_, rfl⟩
          have HZ := hid hz
          have HP := hid hk0
          have hzb : 0 ≤ z ∧ z ≤ 10000 := by omega
          rw [hz]
          have HB3 := hid (HB2.out.trans (hb3.mono HB2.out.size))
          have HX3 := hid (HX2.out.trans (hb3.mono HX2.out.size))
          have HK3 := hid (blk_keep HK2.out hb3)
          have c0 := (three_all HK3.out).1
          have c1 := (three_all HK3.out).2.1
          have c2 := (three_all HK3.out).2.2
          have HLK := hid hk
          clear hr3 hb3 hk hz hk0
          go_wp2_with fail
          refine (H2.out _ HX3.out).mono ?_
          intro e w4 hr4
          obtain ⟨hb4, k', hk', rfl⟩ := lat_ok HEQ.out hr4
          obtain rfl := hk'.eq HLK.out
          rw [if_pos HP.out, decide_eq_true HP.out, HZ.out]
          have HB4 := hid (HB3.out.trans (hb4.mono HB3.out.size))
          have HX4 := hid (HX3.out.trans (hb4.mono HX3.out.size))
          have HK4 := hid (blk_keep HK3.out hb4)
          have c0 := (three_all HK4.out).1
          have c1 := (three_all HK4.out).2.1
          have c2 := (three_all HK4.out).2.2
          clear hr4 hb4 hk'
          by_cases hb0 : b < 0
          · clear HLK H1 H2 H3
            go_wp2_with fail
            refine (HKw.out _ HB4.out).mono ?_
            rintro e w9 ⟨hb, rfl⟩
            go_wp2
            go_ret
            exact ⟨hb, rfl⟩
          · by_cases hb1 : z < b
            · have hb0' : 0 ≤ b := by omega
              clear HLK H1 H2 H3 hb0
              go_wp2_with fail
              refine (HKw.out _ HB4.out).mono ?_
              rintro e w9 ⟨hb, rfl⟩
              go_wp2
              go_ret
              exact ⟨hb, rfl⟩
            · have hb0' : 0 ≤ b := by omega
              have hb1' : b ≤ z := by omega
              have HC1 := hid ((H3.out w4 b HX4.out).mono (fun en W hp => chk_ok HEQ.out HLK.out hb0' (by have := HZ.out; omega) hp))
              clear hb0 hb1
              go_wp2_with fail
              refine HC1.out.mono ?_
              rintro e w5 ⟨hb5, rfl⟩
              have HB5 := hid (HB4.out.trans (hb5.mono HB4.out.size))
              have HX5 := hid (HX4.out.trans (hb5.mono HX4.out.size))
              have HK5 := hid (blk_keep HK4.out hb5)
              have HC2 := hid ((H3.out w5 z HX5.out).mono (fun en W hp => chk_ok HEQ.out HLK.out hzb.1 (by have := HZ.out; omega) hp))
              have c0 := (three_all HK5.out).1
              have c1 := (three_all HK5.out).2.1
              have c2 := (three_all HK5.out).2.2
              clear hb5 HC1
              have hmo := back_mono t l o hb1'
              generalize backD t l o b = y1 at *
              generalize backD t l o z = y2 at *
              go_wp2_with fail
              refine HC2.out.mono ?_
              rintro e w6 ⟨hb6, rfl⟩
              have HB6 := hid (HB5.out.trans (hb6.mono HB5.out.size))
              clear hb6 HC2
              have hd : decide (y1 ≤ y2) = true := decide_eq_true hmo
              go_wp2_with fail
              refine (HKw.out _ HB6.out).mono ?_
              rintro e w9 ⟨hb, rfl⟩
              go_wp2
              go_ret
              exact ⟨hb, rfl⟩
        · rw [if_neg hk0, decide_eq_false hk0]
          have HB3 := hid (HB2.out.trans (hb3.mono HB2.out.size))
          have HX3 := hid (HX2.out.trans (hb3.mono HX2.out.size))
          have HK3 := hid (blk_keep HK2.out hb3)
          have c0 := (three_all HK3.out).1
          have c1 := (three_all HK3.out).2.1
          have c2 := (three_all HK3.out).2.2
          have HLK := hid hk
          have HP := hid hk0
          clear hr3 hb3 hk hk0
          go_wp2_with fail
          refine (H2.out _ HX3.out).mono ?_
          intro e w4 hr4
          obtain ⟨hb4, k', hk', rfl⟩ := lat_ok HEQ.out hr4
          obtain rfl := hk'.eq HLK.out
          rw [if_neg HP.out, decide_eq_false HP.out]
          have HB4 := hid (HB3.out.trans (hb4.mono HB3.out.size))
          have HX4 := hid (HX3.out.trans (hb4.mono HX3.out.size))
          have HK4 := hid (blk_keep HK3.out hb4)
          have c0 := (three_all HK4.out).1
          have c1 := (three_all HK4.out).2.1
          have c2 := (three_all HK4.out).2.2
          clear hr4 hb4 hk'
          clear HLK H1 H2 H3
          go_wp2_with fail
          refine (HKw.out _ HB4.out).mono ?_
          rintro e w9 ⟨hb, rfl⟩
          go_wp2
          go_ret
          exact ⟨hb, rfl⟩
end Go.Proofs.Ytbffdpcogfmomaa
