/- Exchange of the document. -/
import Derived.Test.YtdgleicpcjfnoaaExchE
import Derived.Test.YtdgleicpcjfnoaaExgD
import Derived.Test.YtdgleicpcjfnoaaSwapR
set_option linter.unusedVariables false
set_option linter.unusedSimpArgs false
namespace Go.Proofs.Ytdgleicpcjfnoaa
open Go.RowKit

def ExcD (w : World) (P : Int) (its : List ItemL) (rls : List RuleL) (sw : List (Int × Int)) (en : Ending) (w' : World) : Prop :=
  Below w.heap.size w w' ∧ ((exchE P its rls sw ≠ 0 ∧ en = .returned (.tuple #[.agg #[.int .i64 0, .slice none 0 0, .slice none 0 0], .int .i64 (exchE P its rls sw)])) ∨
    (exchE P its rls sw = 0 ∧ ∃ l A c R d, exL its sw sw.length = some l ∧ en = .returned (.tuple #[.agg #[.int .i64 P, .slice A l.length c, .slice R rls.length d], .int .i64 0]) ∧ BookAt w' P A l R rls))
set_option maxRecDepth 100000 in
set_option maxHeartbeats 4000000 in
theorem rExchange_any (P : Int) (ia : Option Addr) (its : List ItemL) (ic : Nat) (ra : Option Addr) (rls : List RuleL) (rc : Nat) (a : Option Addr) (sw : List (Int × Int)) (cap : Nat) (w : World) (h : BookAt w P ia its ra rls) (hsw : SwAt w a sw) :
  Calls Try.prog 41 #[.agg #[.int .i64 P, .slice ia its.length ic, .slice ra rls.length rc], .slice a sw.length cap] w (ExcD w P its rls sw) := by
  obtain ⟨w1, hw1⟩ : ∃ w1, (w.alloc (.cells #[.int .i64 P, .slice ia its.length ic, .slice ra rls.length rc] 25)).alloc (.cells #[.int .i64 0, .slice none 0 0, .slice none 0 0] 25) = w1 := ⟨_, rfl⟩
  have hX1 : ExcB w w1 P (.slice ia its.length ic) (.slice ra rls.length rc) := by rw [← hw1]; exact ExcB.made _ _ _ _
  have HN := hid (rvalidB_any P ia its ic ra rls rc w1 (h.below hX1.bel))
  have HC := hid (fun (W : World) (hb : Below w.heap.size w W) (hn : its.length ≤ 1000) => swapsOK_any P ia its.length ic (.slice ra rls.length rc) a sw cap W (hsw.below hb) hn)
  have HE := hid (fun (W : World) (hb : Below w.heap.size w W) (hv : validB P its rls = 0) (hs : swE its.length sw = 0) => exchanged_any P ia its ic ra rls rc a sw cap W (h.below hb) hv (hsw.below hb) hs)
  have HX := hid (show exchE P its rls sw = if validB P its rls ≠ 0 then validB P its rls else if swE its.length sw ≠ 0 then swE its.length sw else if exL its sw sw.length = none then 7 else 0 from rfl)
  have HX1 := hid hX1
  obtain ⟨a0, a1, a2, _⟩ := hX1
  clear h hsw
  by_cases hz : validB P its rls = 0
  · obtain ⟨v0, v1, v2, v3, v4, v5⟩ := validB_ok hz
    by_cases hs : swE its.length sw = 0
    · have HX2 := hid (show exchE P its rls sw = if exL its sw sw.length = none then 7 else 0 by rw [HX.out, if_neg (by simp [hz]), if_neg (by simp [hs])])
      have HE := hid (fun (W : World) (hb : Below w.heap.size w W) => HE.out W hb hz hs)
      have HC := hid (fun (W : World) (hb : Below w.heap.size w W) => HC.out W hb (by omega))
      rw [hz] at HN
      rw [hs] at HC
      clear hz hs v0 v1 v2 v3 v4 v5 HX
      go_enter Try.func41, Try.ntmps41
      go_wp2_with fail
      clear hw1
      refine HN.out.mono ?_
      rintro e w3 ⟨q3, rfl⟩
      have HX3 := hid (HX1.out.below q3)
      clear a0 a1 a2
      obtain ⟨a0, a1, a2, _⟩ := id HX3.out
      go_wp2_with fail
      refine (HC.out _ HX3.out.bel).mono ?_
      rintro e w4 ⟨q4, rfl⟩
      have HX4 := hid (HX3.out.below q4)
      clear a0 a1 a2
      obtain ⟨a0, a1, a2, _⟩ := id HX4.out
      go_wp2_with fail
      refine (HE.out _ HX4.out.bel).mono ?_
      rintro e w5 ⟨q5, hr⟩
      have HX5 := hid (HX4.out.below q5)
      have hsz := HX4.out.size
      clear a0 a1 a2
      rcases hr with ⟨hn, rfl⟩ | ⟨l, A, c, R, d, hl, rfl, hB⟩
      · have HF := hid (show exchE P its rls sw = 7 by rw [HX2.out, if_pos hn])
        have hA6 : Below w5.heap.size w5 (w5.alloc (.cells #[.int .i64 P, .slice ia its.length ic, .slice ra rls.length rc] 25)) := (Below.refl _ _).alloc (Nat.le_refl _) _
        have HX6 := hid (HX5.out.below hA6)
        clear hn hA6
        go_upto_region 8 with (fail)
        generalize w5.alloc (.cells #[.int .i64 P, .slice ia its.length ic, .slice ra rls.length rc] 25) = w6 at *
        obtain ⟨_, _, _, r0, r1, r2, rf, _⟩ := id HX6.out
        have f0 := rf 0 (by omega)
        have f1 := rf 1 (by omega)
        have f2 := rf 2 (by omega)
        clear rf
        go_wp2
        refine bodyPost_ret (v := .tuple #[.agg #[.int .i64 0, .slice none 0 0, .slice none 0 0], .int .i64 7]) (by simp [results, Try.results41, go_sem, r0, r1, r2]) rfl ⟨HX6.out.fin _ _ _, .inl ⟨by rw [HF.out]; decide, by rw [HF.out]⟩⟩
      · have HF := hid (show exchE P its rls sw = 0 by rw [HX2.out, if_neg (by rw [hl]; simp)])
        have HL := hid hl
        have hA6 : Below w5.heap.size w5 (w5.alloc (.cells #[.int .i64 P, .slice A l.length c, .slice R rls.length d] 25)) := (Below.refl _ _).alloc (Nat.le_refl _) _
        have HX6 := hid (HX5.out.below hA6)
        have x0 : (w5.alloc (.cells #[.int .i64 P, .slice A l.length c, .slice R rls.length d] 25)).cell? ⟨w5.heap.size, 0, none⟩ = some (.int .i64 P) := by go_simp
        have x1 : (w5.alloc (.cells #[.int .i64 P, .slice A l.length c, .slice R rls.length d] 25)).cell? ⟨w5.heap.size, 1, none⟩ = some (.slice A l.length c) := by go_simp
        have x2 : (w5.alloc (.cells #[.int .i64 P, .slice A l.length c, .slice R rls.length d] 25)).cell? ⟨w5.heap.size, 2, none⟩ = some (.slice R rls.length d) := by go_simp
        have HBs := hid (fun (w'' : World) (hs : SameAbove w4.heap.size (w5.alloc (.cells #[.int .i64 P, .slice A l.length c, .slice R rls.length d] 25)) w'') => hB w'' (fun b off v hb h0 => hs b off v hb (by rw [World.cell?_alloc_lt _ _ _ (cell_lt h0)]; exact h0)))
        clear hl hB hA6
        go_upto_region 8 with (fail)
        generalize w5.alloc (.cells #[.int .i64 P, .slice A l.length c, .slice R rls.length d] 25) = w6 at *
        generalize w5.heap.size = o8 at *
        obtain ⟨_, _, _, r0, r1, r2, rf, _⟩ := id HX6.out
        have f0 := rf 0 (by omega)
        have f1 := rf 1 (by omega)
        have f2 := rf 2 (by omega)
        clear rf
        have HBf := hid (fun (u0 u1 u2 : Value) => HBs.out _ (((SameAbove.setCell (base := w4.heap.size) w6 ⟨w.heap.size + 1, 0, none⟩ u0 (by dsimp only; omega)).trans (SameAbove.setCell _ ⟨w.heap.size + 1, 1, none⟩ u1 (by dsimp only; omega))).trans (SameAbove.setCell _ ⟨w.heap.size + 1, 2, none⟩ u2 (by dsimp only; omega))))
        go_wp2
        refine bodyPost_ret (v := .tuple #[.agg #[.int .i64 P, .slice A l.length c, .slice R rls.length d], .int .i64 0]) (by simp [results, Try.results41, go_sem, r0, r1, r2]) rfl ⟨HX6.out.fin _ _ _, .inr ⟨HF.out, l, A, c, R, d, HL.out, rfl, HBf.out _ _ _⟩⟩
    · have HF := hid (show exchE P its rls sw = swE its.length sw by rw [HX.out, if_neg (by simp [hz]), if_pos hs])
      have HC := hid (fun (W : World) (hb : Below w.heap.size w W) => HC.out W hb (by omega))
      rw [hz] at HN
      have HNz := hid hs
      generalize swE its.length sw = x at *
      have hx : (x != 0) = true := by simp [hs]
      clear hz hs v0 v1 v2 v3 v4 v5 HX HE
      go_enter Try.func41, Try.ntmps41
      go_wp2_with fail
      clear hw1
      refine HN.out.mono ?_
      rintro e w3 ⟨q3, rfl⟩
      have HX3 := hid (HX1.out.below q3)
      clear a0 a1 a2
      obtain ⟨a0, a1, a2, _⟩ := id HX3.out
      go_wp2_with fail
      refine (HC.out _ HX3.out.bel).mono ?_
      rintro e w4 ⟨q4, rfl⟩
      have HX4 := hid (HX3.out.below q4)
      clear a0 a1 a2
      obtain ⟨_, _, _, r0, r1, r2, rf, _⟩ := id HX4.out
      have f0 := rf 0 (by omega)
      have f1 := rf 1 (by omega)
      have f2 := rf 2 (by omega)
      clear rf
      go_wp2
      refine bodyPost_ret (v := .tuple #[.agg #[.int .i64 0, .slice none 0 0, .slice none 0 0], .int .i64 x]) (by simp [results, Try.results41, go_sem, r0, r1, r2]) rfl ⟨HX4.out.fin _ _ _, .inl ⟨by rw [HF.out]; exact HNz.out, by rw [HF.out]⟩⟩
  · have HF := hid (show exchE P its rls sw = validB P its rls by rw [HX.out, if_pos hz])
    have HNz := hid hz
    generalize validB P its rls = x at *
    have hx : (x != 0) = true := by simp [hz]
    clear hz HX HE HC
    go_enter Try.func41, Try.ntmps41
    go_wp2_with fail
    clear hw1
    refine HN.out.mono ?_
    rintro e w3 ⟨q3, rfl⟩
    have HX3 := hid (HX1.out.below q3)
    clear a0 a1 a2
    obtain ⟨_, _, _, r0, r1, r2, rf, _⟩ := id HX3.out
    have f0 := rf 0 (by omega)
    have f1 := rf 1 (by omega)
    have f2 := rf 2 (by omega)
    clear rf
    go_wp2
    refine bodyPost_ret (v := .tuple #[.agg #[.int .i64 0, .slice none 0 0, .slice none 0 0], .int .i64 x]) (by simp [results, Try.results41, go_sem, r0, r1, r2]) rfl ⟨HX3.out.fin _ _ _, .inl ⟨by rw [HF.out]; exact HNz.out, by rw [HF.out]⟩⟩
end Go.Proofs.Ytdgleicpcjfnoaa
