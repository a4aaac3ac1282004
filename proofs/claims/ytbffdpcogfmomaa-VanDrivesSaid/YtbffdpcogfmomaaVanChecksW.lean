/- The walk of the law VanChecks. -/
import Derived.Test.YtbffdpcogfmomaaVaTp
set_option linter.unusedVariables false
namespace Go.Proofs.Ytbffdpcogfmomaa
open Go.RowKit

theorem chk_same {t : Tbl} {l : List St} {o : List Int} {b : Int} {W W2 V V2 : World} {x y : Ending} (h1 : ChkR t l o b W x W2) (h2 : ChkR t l o b V y V2) : ∃ n e, x = .returned (.tuple #[.int .i64 n, .int .i64 e]) ∧ y = .returned (.tuple #[.int .i64 n, .int .i64 e]) := by
  rcases h1.2 with ⟨e1, h1⟩ | ⟨e1, m, hm, h1⟩
  · rcases h2.2 with ⟨e2, h2⟩ | ⟨e2, _⟩
    · exact ⟨_, _, h1, h2⟩
    · exact absurd e2 e1
  · rcases h2.2 with ⟨e2, _⟩ | ⟨e2, m2, hm2, h2⟩
    · exact absurd e1 e2
    · obtain rfl := hm.eq hm2
      exact ⟨_, _, h1, h2⟩
set_option maxRecDepth 100000 in
set_option maxHeartbeats 8000000 in
theorem vanChecks_walk (a A B : Option Addr) (t : Tbl) (l : List St) (o : List Int) (b : Int) (cap c d : Nat) (w : World) (h0 : t.length ≤ 9223372036854775807) (h : TabRaw w a t) (l0 : l.length ≤ 9223372036854775807) (hs : l.length ≤ 140737488355328 → StsAt w A l) (o0 : o.length ≤ 9223372036854775807) (ho : o.length ≤ 140737488355328 → Ints w B o) (hbb : -9223372036854775808 ≤ b ∧ b ≤ 9223372036854775807) :
  Calls Try.prog 12 #[.slice a t.length cap, .agg #[.slice A l.length c, .slice B o.length d, .int .i64 b]] w (BoolR w true) := by
  have P0 := hid ((Below.refl w.heap.size w).alloc (Nat.le_refl _) (.cells #[.slice A l.length c, .slice B o.length d, .int .i64 b] 49))
  have K0 := heap_alloc_new w (.cells #[.slice A l.length c, .slice B o.length d, .int .i64 b] 49)
  have c0 := (three_all K0).1
  have c1 := (three_all K0).2.1
  have c2 := (three_all K0).2.2
  obtain ⟨w0, hw0⟩ : ∃ w0, w.alloc (.cells #[.slice A l.length c, .slice B o.length d, .int .i64 b] 49) = w0 := ⟨_, rfl⟩
  have HW0 := hid hw0
  rw [hw0] at P0 K0 c0 c1 c2
  have hz0 : w.heap.size ≤ w0.heap.size := P0.out.size
  have h2 : TabRaw w0 a t := fun hq => by
    rcases h hq with e | ⟨b1, o1, e, hc⟩
    · exact .inl e
    · refine .inr ⟨b1, o1, e, fun i hi => ?_⟩
      obtain ⟨A1, c1, g1, g2, g3⟩ := hc i hi
      exact ⟨A1, c1, (P0.out.cell (cell_lt g1)).trans g1, g2, fun hq => (g3 hq).below P0.out⟩
  have HLa := hid (large_any a t cap w0 h0 h2)
  have HLo := hid (many_any A B l.length o.length c d b w0 l0 o0)
  have HKw := hid (fun (W : World) (hb : Below w.heap.size w W) => (known8_any W).mono (fun en W2 (hp : BoolR W true en W2) => (show BoolR w true en W2 from ⟨hb.trans (hp.1.mono hb.size), hp.2⟩)))
  cases hlg : largeB t with
  | true =>
    rw [hlg] at HLa
    clear h hs ho h2 hlg hw0 K0 c0 c1 c2
    as_aux_lemma =>
      have hw0 := HW0.out
      go_enter Try.func12, Try.ntmps12
      go_wp2_with fail
      clear hw0
      refine HLa.out.mono ?_
      rintro e w1 ⟨rfl, rfl⟩
      go_wp2_with fail
      refine (HKw.out _ P0.out).mono ?_
      rintro e w9 ⟨hb, rfl⟩
      go_wp2
      go_ret
      exact ⟨hb, rfl⟩
  | false =>
    rw [hlg] at HLa
    by_cases hlo : (decide (60 < l.length) || decide (60 < o.length)) = true
    · rw [hlo] at HLo
      clear h hs ho h2 hlg hlo hw0 K0
      as_aux_lemma =>
        have hw0 := HW0.out
        go_enter Try.func12, Try.ntmps12
        go_wp2_with fail
        clear hw0
        refine HLa.out.mono ?_
        rintro e w1 ⟨rfl, rfl⟩
        go_wp2_with fail
        refine HLo.out.mono ?_
        rintro e w2 ⟨rfl, hb2⟩
        have HB2 := hid (P0.out.trans (hb2.mono hz0))
        clear hb2 c0 c1 c2
        go_wp2_with fail
        refine (HKw.out _ HB2.out).mono ?_
        rintro e w9 ⟨hb, rfl⟩
        go_wp2
        go_ret
        exact ⟨hb, rfl⟩
    · rw [Bool.not_eq_true] at hlo
      rw [hlo] at HLo
      have hl6 : l.length ≤ 60 ∧ o.length ≤ 60 := by simp at hlo; omega
      have hT := h2.tab hlg
      have hS := (hs (by omega)).below P0.out
      have hI := (ho (by omega)).below P0.out
      have HT := hid hT
      have HS := hid hS
      have HI := hid hI
      have HK0 := hid K0
      have hl := hl6.1
      have hol := hl6.2
      clear h hs ho h2 hlg hlo hw0 K0 c0 c1 c2 hl6 hT hS hI
      have H1 := hid (fun (W : World) (hb : Below w0.heap.size w0 W) => vCheck_any a A B t l o b cap c d W (HT.out.below hb) (HS.out.below hb) (HI.out.below hb) (by omega))
      have H2 := hid (fun (W : World) (hb : Below w0.heap.size w0 W) => rCheck_any a A B t l o b cap c d W (HT.out.below hb) (HS.out.below hb) (HI.out.below hb) (by omega))
      have HU := hid (fun (W V : World) (x y : Ending) (W2 V2 : World) (h1 : ChkR t l o b W x W2) (h2 : ChkR t l o b V y V2) => chk_same h1 h2)
      clear HT HS HI
      have c0 := (three_all HK0.out).1
      have c1 := (three_all HK0.out).2.1
      have c2 := (three_all HK0.out).2.2
      have hw0 := HW0.out
      go_enter Try.func12, Try.ntmps12
      go_wp2_with fail
      clear hw0
      refine HLa.out.mono ?_
      rintro e w1 ⟨rfl, rfl⟩
      go_wp2_with fail
      refine HLo.out.mono ?_
      rintro e w2 ⟨rfl, hb2⟩
      have HB2 := hid (P0.out.trans (hb2.mono hz0))
      have HX2 := hid hb2
      have HK2 := hid (blk_keep HK0.out hb2)
      have c0 := (three_all HK2.out).1
      have c1 := (three_all HK2.out).2.1
      have c2 := (three_all HK2.out).2.2
      clear hb2
      go_wp2_with fail
      refine (H1.out _ HX2.out).mono ?_
      intro e w3 hr3
      have HB3 := hid (HB2.out.trans (hr3.1.mono HB2.out.size))
      have HX3 := hid (HX2.out.trans (hr3.1.mono HX2.out.size))
      have HK3 := hid (blk_keep HK2.out hr3.1)
      have HR3 := hid hr3
      have HC3 := hid ((H2.out _ HX3.out))
      obtain ⟨n, e0, he, _⟩ := chk_same hr3 hr3
      obtain rfl := he
      have c0 := (three_all HK3.out).1
      have c1 := (three_all HK3.out).2.1
      have c2 := (three_all HK3.out).2.2
      clear hr3
      go_wp2_with fail
      refine HC3.out.mono ?_
      intro e w4 hr4
      have HB4 := hid (HB3.out.trans (hr4.1.mono HB3.out.size))
      obtain ⟨n', e', he1, he2⟩ := HU.out _ _ _ _ _ _ HR3.out hr4
      simp only [Ending.returned.injEq, Value.tuple.injEq, Array.mk.injEq, List.cons.injEq, Value.int.injEq, and_true, true_and] at he1
      obtain ⟨rfl, rfl⟩ := he1
      subst he2
      clear hr4 c0 c1 c2
      go_wp2_with fail
      refine (HKw.out _ HB4.out).mono ?_
      rintro e w9 ⟨hb, rfl⟩
      go_wp2
      go_ret
      exact ⟨hb, rfl⟩
end Go.Proofs.Ytbffdpcogfmomaa
