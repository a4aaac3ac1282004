/- The law DishExchanges: its walk (written by gen_dishexch.py). -/
import Derived.Test.YtdgleicpcjfnoaaExcR
import Derived.Test.YtdgleicpcjfnoaaKnownD
import Derived.Test.YtdgleicpcjfnoaaLongB
import Derived.Test.YtdgleicpcjfnoaaRSameB
set_option linter.unusedVariables false
namespace Go.Proofs.Ytdgleicpcjfnoaa
open Go.RowKit

theorem longBk_lensX {its : List ItemL} {rls : List RuleL} (h : longBk its rls = false) : its.length ≤ 1000 ∧ (∀ i, i < its.length → (its[i]?.getD ([], [])).1.length ≤ 1000 ∧ (its[i]?.getD ([], [])).2.length ≤ 1000) ∧ rls.length ≤ 1000 ∧ (∀ i, i < rls.length → (rls[i]?.getD ([], 0)).1.length ≤ 1000) := by
  rw [longBk, Bool.or_eq_false_iff, Bool.or_eq_false_iff, decide_eq_false_iff_not] at h
  have hI := longI_false h.1.2
  have hR := longR_false h.2
  exact ⟨by omega, fun i hi => by have := hI i hi; omega, by omega, fun i hi => by have := hR i hi; omega⟩
/-- The box of a book. -/
structure BkY (w : World) (o : Nat) (P : Int) (i r : Value) : Prop where
  c0 : w.cell? ⟨o, 0, none⟩ = some (.int .i64 P)
  c1 : w.cell? ⟨o, 1, none⟩ = some i
  c2 : w.cell? ⟨o, 2, none⟩ = some r
theorem BkY.below {w w' : World} {o : Nat} {P : Int} {i r : Value} (h : BkY w o P i r) (hb : Below w.heap.size w w') : BkY w' o P i r :=
  ⟨(hb.cell (cell_lt h.c0)).trans h.c0, (hb.cell (cell_lt h.c1)).trans h.c1, (hb.cell (cell_lt h.c2)).trans h.c2⟩
theorem BkY.made (w : World) (P : Int) (i r : Value) : BkY (w.alloc (.cells #[.int .i64 P, i, r] 25)) w.heap.size P i r := ⟨by go_simp, by go_simp, by go_simp⟩
theorem exchE_ok {P : Int} {its : List ItemL} {rls : List RuleL} {sw : List (Int × Int)} (h : exchE P its rls sw = 0) : validB P its rls = 0 ∧ swE its.length sw = 0 := by
  unfold exchE at h
  split at h
  · exact absurd h ‹_›
  · split at h
    · exact absurd h ‹_›
    · exact ⟨by simp_all, by simp_all⟩
/-- The program's Exchange as the document's answer. -/
theorem exchangeD_any (P : Int) (ia : Option Addr) (its : List ItemL) (ic : Nat) (ra : Option Addr) (rls : List RuleL) (rc : Nat) (a : Option Addr) (sw : List (Int × Int)) (cap : Nat) (w : World) (h : BookAt w P ia its ra rls) (hsw : SwAt w a sw) :
  Calls Try.prog 40 #[.agg #[.int .i64 P, .slice ia its.length ic, .slice ra rls.length rc], .slice a sw.length cap] w (ExcD w P its rls sw) := by
  refine (exchangeE_any P ia its ic ra rls rc a sw cap w h hsw).mono ?_
  rintro e w' ⟨hb, hr⟩
  refine ⟨hb, ?_⟩
  rcases hr with hr | ⟨h0, l, A, c, R, d, hl, he, hB⟩
  · exact .inl hr
  · obtain ⟨hv, hs⟩ := exchE_ok h0
    obtain ⟨s8, sB⟩ := swE_ok hs
    have hvl := valid_ex hv (Nat.le_refl _) (fun s hs => (sB s hs).2.1) hl
    have hll := exL_len hl
    rw [← hll] at he hB
    obtain ⟨v0, v1, v2, v3, v4, v5⟩ := validB_ok hvl
    obtain ⟨p, rfl⟩ := Int.eq_ofNat_of_zero_le v0
    refine .inr ⟨h0, l, A, c, R, d, hl, he, hB.items.items rfl (by omega) (fun i hi => ?_), hB.rules.rules rfl (by omega) (rules_small v5 (by omega)), by omega, by omega⟩
    obtain ⟨i1, i2, i3⟩ := itemsE_ok (p : Int) l 0 v4 i hi
    have g2 := (isSetFrom_iff _ _ _).1 i2
    have g3 := (isSetFrom_iff _ _ _).1 i3
    have := isSet_len i3
    exact ⟨⟨by omega, fun x hx => by have := g2.2 x hx; omega⟩, ⟨by omega, fun x hx => by have := g3.2 x hx; omega⟩⟩
set_option maxRecDepth 100000 in
set_option maxHeartbeats 16000000 in
theorem dishExchanges_walk (P : Int) (ia : Option Addr) (its : List ItemL) (ic : Nat) (ra : Option Addr) (rls : List RuleL) (rc : Nat) (a : Option Addr) (sw : List (Int × Int)) (cap : Nat) (w : World) (h : BookRaw w P ia its ra rls) (h1 : sw.length ≤ 9223372036854775807 ∧ sw.length ≤ cap) (hT : sw.length ≤ 140737488355328 → SwAt w a sw) :
  Calls Try.prog 11 #[.agg #[.int .i64 P, .slice ia its.length ic, .slice ra rls.length rc], .slice a sw.length cap] w (BoolR w true) := by
  have h1 := h1.1
  have S0 := ValS.made w P (.slice ia its.length ic) (.slice ra rls.length rc)
  have hRaw : BookRaw (w.alloc (.cells #[.int .i64 P, .slice ia its.length ic, .slice ra rls.length rc] 25)) P ia its ra rls := ⟨h.lo, h.hi, h.li, h.lr, h.items.below S0.below, h.rules.below S0.below⟩
  have HLg := hid (longBk_any P ia its ic ra rls rc _ hRaw)
  have HS0 := hid S0
  clear S0 hRaw
  by_cases hq : longBk its rls = true ∨ 100 < sw.length
  · by_cases hb : longBk its rls = true
    · rw [hb] at HLg
      clear hq hb
      go_enter Try.func11, Try.ntmps11
      go_wp2_with fail
      refine HLg.out.mono ?_
      rintro e w1 ⟨q1, rfl⟩
      have hS1 := HS0.out.keep q1
      go_wp2_with fail
      refine (knownD_any _).mono ?_
      rintro e w2 ⟨q2, rfl⟩
      go_wp2
      go_ret
      exact ⟨(hS1.keep q2).below, rfl⟩
    · have h6 : (100 : Int) < (sw.length : Int) := by have := hq.resolve_left hb; omega
      rw [Bool.not_eq_true] at hb
      rw [hb] at HLg
      clear hq hb
      go_enter Try.func11, Try.ntmps11
      go_wp2_with fail
      refine HLg.out.mono ?_
      rintro e w1 ⟨q1, rfl⟩
      have hS1 := HS0.out.keep q1
      go_wp2_with fail
      refine (knownD_any _).mono ?_
      rintro e w2 ⟨q2, rfl⟩
      go_wp2
      go_ret
      exact ⟨(hS1.keep q2).below, rfl⟩
  · have hb : longBk its rls = false := by
      rw [← Bool.not_eq_true]; exact fun hh => hq (.inl hh)
    have h6 : (sw.length : Int) ≤ 100 := by omega
    have hBk := h.book hb
    have hI := hT (by omega)
    obtain ⟨l1, l2, l3, l4⟩ := longBk_lensX hb
    rw [hb] at HLg
    have HCp := hid (fun (W : World) (hb : Below w.heap.size w W) => copyBk_any P ia its ic ra rls rc W (hBk.below hb) l1 l2 l3 l4)
    have HRx := hid (fun (W : World) (hb : Below w.heap.size w W) => rExchange_any P ia its ic ra rls rc a sw cap W (hBk.below hb) (hI.below hb))
    have HEx := hid (fun (A : Option Addr) (c : Nat) (R : Option Addr) (d : Nat) (W : World) (ho : BookAt W P A its R rls) (hb : Below w.heap.size w W) => exchangeD_any P A its c R rls d a sw cap W ho (hI.below hb))
    have HSm := hid (fun (A : Option Addr) (c : Nat) (R : Option Addr) (d : Nat) (W : World) (ho : BookAt W P A its R rls) (hb : Below w.heap.size w W) => sameBk_any P A its c R rls d ia ic ra rc W ho (hBk.below hb))
    clear hq hb hBk hT h hI l1 l2 l3 l4
    by_cases hz : exchE P its rls sw = 0
    · skip
      go_enter Try.func11, Try.ntmps11
      go_wp2_with fail
      refine HLg.out.mono ?_
      rintro e w1 ⟨q1, rfl⟩
      have HS1 := hid (HS0.out.keep q1)
      obtain ⟨a0, a1, a2, _⟩ := id HS1.out
      clear q1 HLg HS0
      go_wp2_with fail
      refine (HCp.out _ HS1.out.below).mono ?_
      rintro e w2 ⟨q2, A, c, R, d, rfl, hO⟩
      have HS2 := hid (HS1.out.keep q2)
      clear a0 a1 a2
      obtain ⟨a0, a1, a2, _⟩ := id HS2.out
      clear q2 HCp HS1
      go_upto_region 4 with (fail)
      have hAw3 : Below w2.heap.size w2 (w2.alloc (.cells #[.int .i64 P, .slice A its.length c, .slice R rls.length d] 25)) := (Below.refl _ _).alloc (Nat.le_refl _) _
      have hXw3 := BkY.made w2 P (.slice A its.length c) (.slice R rls.length d)
      have HS3 := hid (HS2.out.keep hAw3)
      have hO := hO.below hAw3
      generalize w2.alloc (.cells #[.int .i64 P, .slice A its.length c, .slice R rls.length d] 25) = w3 at *
      generalize w2.heap.size = b5 at *
      have HO := hid (fun (W : World) (hb : Below w3.heap.size w3 W) => hO.below hb)
      have HX5 := hid hXw3
      clear a0 a1 a2
      obtain ⟨a0, a1, a2, _⟩ := id HS3.out
      obtain ⟨x0, x1, x2⟩ := id HX5.out
      clear hAw3 hO hXw3 HS2
      go_wp2_with fail
      refine (HEx.out A c R d w3 (HO.out _ (Below.refl _ _)) HS3.out.below).mono ?_
      rintro e w4 ⟨q4, hexc⟩
      have HS4 := hid (HS3.out.keep q4)
      have HX54 := hid (HX5.out.below q4)
      have HB4 := hid q4
      clear a0 a1 a2 x0 x1 x2 HEx HX5
      obtain ⟨_, l, A4, c4, R4, d4, hl4, rfl, hA4⟩ := hexc.resolve_left (fun h => h.1 hz)
      have HL4 := hid hl4
      clear hl4
      obtain ⟨a0, a1, a2, _⟩ := id HS4.out
      go_upto_region 5 with (fail)
      have hAw5 : Below w4.heap.size w4 (w4.alloc (.cells #[.int .i64 P, .slice A4 l.length c4, .slice R4 rls.length d4] 25)) := (Below.refl _ _).alloc (Nat.le_refl _) _
      have hXw5 := BkY.made w4 P (.slice A4 l.length c4) (.slice R4 rls.length d4)
      have HS5 := hid (HS4.out.keep hAw5)
      have HX55 := hid (HX54.out.below hAw5)
      have HB5 := hid (HB4.out.trans (hAw5.mono HB4.out.size))
      have HA5 := hid (hA4.below hAw5)
      generalize w4.alloc (.cells #[.int .i64 P, .slice A4 l.length c4, .slice R4 rls.length d4] 25) = w5 at *
      generalize w4.heap.size = b6 at *
      have HX6 := hid hXw5
      clear a0 a1 a2 hAw5 hXw5 HS4 HX54 q4 HB4 hA4
      obtain ⟨a0, a1, a2, _⟩ := id HS5.out
      go_wp2_with fail
      refine (HRx.out _ HS5.out.below).mono ?_
      rintro e w6 ⟨q6, hexc⟩
      obtain ⟨_, l', A6, c6, R6, d6, hl6, rfl, hC6⟩ := hexc.resolve_left (fun h => h.1 hz)
      have hll : l' = l := by have := HL4.out; rw [this] at hl6; exact (Option.some.inj hl6).symm
      subst hll
      clear hl6
      have HS6 := hid (HS5.out.keep q6)
      clear a0 a1 a2
      obtain ⟨a0, a1, a2, _⟩ := id HS6.out
      go_upto_region 6 with (fail)
      have hAw7 : Below w6.heap.size w6 (w6.alloc (.cells #[.int .i64 P, .slice A6 l'.length c6, .slice R6 rls.length d6] 25)) := (Below.refl _ _).alloc (Nat.le_refl _) _
      have hXw7 := BkY.made w6 P (.slice A6 l'.length c6) (.slice R6 rls.length d6)
      have p7 : Below w5.heap.size w5 _ := q6.trans (hAw7.mono q6.size)
      have HS7 := hid (HS6.out.keep hAw7)
      have HX57 := hid (HX55.out.below p7)
      have HX67 := hid (HX6.out.below p7)
      have HB7 := hid (HB5.out.trans (p7.mono HB5.out.size))
      have HA7 := hid (HA5.out.below p7)
      have HC7 := hid (hC6.below hAw7)
      clear p7 hC6
      generalize w6.alloc (.cells #[.int .i64 P, .slice A6 l'.length c6, .slice R6 rls.length d6] 25) = w7 at *
      generalize w6.heap.size = b8 at *
      have HX87 := hid hXw7
      clear a0 a1 a2 hXw7 hAw7 q6 HS5 HS6 HX55 HX6 HB5 HRx HA5
      obtain ⟨a0, a1, a2, _⟩ := id HS7.out
      obtain ⟨x0, x1, x2⟩ := id HX57.out
      obtain ⟨y0, y1, y2⟩ := id HX67.out
      obtain ⟨z0, z1, z2⟩ := id HX87.out
      go_wp2_with fail
      refine (sameBk_any P A4 l' c4 R4 rls d4 A6 c6 R6 d6 w7 HA7.out HC7.out).mono ?_
      rintro e w8 ⟨q8, rfl⟩
      have HS8 := hid (HS7.out.keep q8)
      have HX58 := hid (HX57.out.below q8)
      have HB8 := hid (HB7.out.trans (q8.mono HB7.out.size))
      clear a0 a1 a2 x0 x1 x2 y0 y1 y2 z0 z1 z2 q8
      obtain ⟨a0, a1, a2, _⟩ := id HS8.out
      obtain ⟨x0, x1, x2⟩ := id HX58.out
      go_wp2_with fail
      refine (HSm.out A c R d _ (HO.out _ HB8.out) HS8.out.below).mono ?_
      rintro e w9 ⟨q9, rfl⟩
      have HS9 := hid (HS8.out.keep q9)
      clear a0 a1 a2 x0 x1 x2
      go_wp2_with fail
      refine (knownD_any _).mono ?_
      rintro e wA ⟨qA, rfl⟩
      go_wp2
      go_ret
      exact ⟨(HS9.out.keep qA).below, rfl⟩
    · skip
      go_enter Try.func11, Try.ntmps11
      go_wp2_with fail
      refine HLg.out.mono ?_
      rintro e w1 ⟨q1, rfl⟩
      have HS1 := hid (HS0.out.keep q1)
      obtain ⟨a0, a1, a2, _⟩ := id HS1.out
      clear q1 HLg HS0
      go_wp2_with fail
      refine (HCp.out _ HS1.out.below).mono ?_
      rintro e w2 ⟨q2, A, c, R, d, rfl, hO⟩
      have HS2 := hid (HS1.out.keep q2)
      clear a0 a1 a2
      obtain ⟨a0, a1, a2, _⟩ := id HS2.out
      clear q2 HCp HS1
      go_upto_region 4 with (fail)
      have hAw3 : Below w2.heap.size w2 (w2.alloc (.cells #[.int .i64 P, .slice A its.length c, .slice R rls.length d] 25)) := (Below.refl _ _).alloc (Nat.le_refl _) _
      have hXw3 := BkY.made w2 P (.slice A its.length c) (.slice R rls.length d)
      have HS3 := hid (HS2.out.keep hAw3)
      have hO := hO.below hAw3
      generalize w2.alloc (.cells #[.int .i64 P, .slice A its.length c, .slice R rls.length d] 25) = w3 at *
      generalize w2.heap.size = b5 at *
      have HO := hid (fun (W : World) (hb : Below w3.heap.size w3 W) => hO.below hb)
      have HX5 := hid hXw3
      clear a0 a1 a2
      obtain ⟨a0, a1, a2, _⟩ := id HS3.out
      obtain ⟨x0, x1, x2⟩ := id HX5.out
      clear hAw3 hO hXw3 HS2
      go_wp2_with fail
      refine (HEx.out A c R d w3 (HO.out _ (Below.refl _ _)) HS3.out.below).mono ?_
      rintro e w4 ⟨q4, hexc⟩
      have HS4 := hid (HS3.out.keep q4)
      have HX54 := hid (HX5.out.below q4)
      have HB4 := hid q4
      clear a0 a1 a2 x0 x1 x2 HEx HX5
      obtain ⟨_, rfl⟩ := hexc.resolve_right (fun h => hz h.1)
      have hA4 : BookAt w4 0 none [] none [] := ⟨⟨by simp, .inl rfl⟩, ⟨by simp, .inl rfl⟩, by omega, by omega⟩
      obtain ⟨a0, a1, a2, _⟩ := id HS4.out
      go_upto_region 5 with (fail)
      have hAw5 : Below w4.heap.size w4 (w4.alloc (.cells #[.int .i64 0, .slice none 0 0, .slice none 0 0] 25)) := (Below.refl _ _).alloc (Nat.le_refl _) _
      have hXw5 := BkY.made w4 0 (.slice none 0 0) (.slice none 0 0)
      have HS5 := hid (HS4.out.keep hAw5)
      have HX55 := hid (HX54.out.below hAw5)
      have HB5 := hid (HB4.out.trans (hAw5.mono HB4.out.size))
      have HA5 := hid (hA4.below hAw5)
      generalize w4.alloc (.cells #[.int .i64 0, .slice none 0 0, .slice none 0 0] 25) = w5 at *
      generalize w4.heap.size = b6 at *
      have HX6 := hid hXw5
      clear a0 a1 a2 hAw5 hXw5 HS4 HX54 q4 HB4 hA4
      obtain ⟨a0, a1, a2, _⟩ := id HS5.out
      go_wp2_with fail
      refine (HRx.out _ HS5.out.below).mono ?_
      rintro e w6 ⟨q6, hexc⟩
      obtain ⟨_, rfl⟩ := hexc.resolve_right (fun h => hz h.1)
      have hC6 : BookAt w6 0 none [] none [] := ⟨⟨by simp, .inl rfl⟩, ⟨by simp, .inl rfl⟩, by omega, by omega⟩
      have HS6 := hid (HS5.out.keep q6)
      clear a0 a1 a2
      obtain ⟨a0, a1, a2, _⟩ := id HS6.out
      go_upto_region 6 with (fail)
      have hAw7 : Below w6.heap.size w6 (w6.alloc (.cells #[.int .i64 0, .slice none 0 0, .slice none 0 0] 25)) := (Below.refl _ _).alloc (Nat.le_refl _) _
      have hXw7 := BkY.made w6 0 (.slice none 0 0) (.slice none 0 0)
      have p7 : Below w5.heap.size w5 _ := q6.trans (hAw7.mono q6.size)
      have HS7 := hid (HS6.out.keep hAw7)
      have HX57 := hid (HX55.out.below p7)
      have HX67 := hid (HX6.out.below p7)
      have HB7 := hid (HB5.out.trans (p7.mono HB5.out.size))
      have HA7 := hid (HA5.out.below p7)
      have HC7 := hid (hC6.below hAw7)
      clear p7 hC6
      generalize w6.alloc (.cells #[.int .i64 0, .slice none 0 0, .slice none 0 0] 25) = w7 at *
      generalize w6.heap.size = b8 at *
      have HX87 := hid hXw7
      clear a0 a1 a2 hXw7 hAw7 q6 HS5 HS6 HX55 HX6 HB5 HRx HA5
      obtain ⟨a0, a1, a2, _⟩ := id HS7.out
      obtain ⟨x0, x1, x2⟩ := id HX57.out
      obtain ⟨y0, y1, y2⟩ := id HX67.out
      obtain ⟨z0, z1, z2⟩ := id HX87.out
      generalize exchE P its rls sw = x at *
      have hxx : (x == x) = true := by simp
      have HZ := hid hz
      clear hz
      go_wp2_with fail
      refine (sameBk_any 0 none [] 0 none [] 0 none 0 none 0 w7 HA7.out HC7.out).mono ?_
      rintro e w8 ⟨q8, rfl⟩
      have HS8 := hid (HS7.out.keep q8)
      have HX58 := hid (HX57.out.below q8)
      have HB8 := hid (HB7.out.trans (q8.mono HB7.out.size))
      clear a0 a1 a2 x0 x1 x2 y0 y1 y2 z0 z1 z2 q8
      obtain ⟨a0, a1, a2, _⟩ := id HS8.out
      obtain ⟨x0, x1, x2⟩ := id HX58.out
      go_wp2_with fail
      refine (HSm.out A c R d _ (HO.out _ HB8.out) HS8.out.below).mono ?_
      rintro e w9 ⟨q9, rfl⟩
      have HS9 := hid (HS8.out.keep q9)
      clear a0 a1 a2 x0 x1 x2
      go_wp2_with fail
      refine (knownD_any _).mono ?_
      rintro e wA ⟨qA, rfl⟩
      go_wp2
      go_ret
      exact ⟨(HS9.out.keep qA).below, rfl⟩
end Go.Proofs.Ytdgleicpcjfnoaa
