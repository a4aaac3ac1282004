/- The law DishValidates: its walk. -/
import Derived.Test.YtdgleicpcjfnoaaRCopyD
import Derived.Test.YtdgleicpcjfnoaaKnownD
import Derived.Test.YtdgleicpcjfnoaaLongB
set_option linter.unusedVariables false
set_option linter.unusedSimpArgs false
namespace Go.Proofs.Ytdgleicpcjfnoaa
open Go.RowKit

theorem longBk_lens {its : List ItemL} {rls : List RuleL} (h : longBk its rls = false) : its.length ≤ 1000 ∧ (∀ i, i < its.length → (its[i]?.getD ([], [])).1.length ≤ 1000 ∧ (its[i]?.getD ([], [])).2.length ≤ 1000) ∧ rls.length ≤ 1000 ∧ (∀ i, i < rls.length → (rls[i]?.getD ([], 0)).1.length ≤ 1000) := by
  rw [longBk, Bool.or_eq_false_iff, Bool.or_eq_false_iff, decide_eq_false_iff_not] at h
  have hI := longI_false h.1.2
  have hR := longR_false h.2
  exact ⟨by omega, fun i hi => by have := hI i hi; omega, by omega, fun i hi => by have := hR i hi; omega⟩

/-- What the calls keep: the box n of a book and the box g of another. -/
def BxS (w : World) (n g : Nat) (P : Int) (i r i2 r2 : Value) (w' : World) : Prop :=
  w'.cell? ⟨n, 0, none⟩ = some (.int .i64 P) ∧ w'.cell? ⟨n, 1, none⟩ = some i ∧ w'.cell? ⟨n, 2, none⟩ = some r ∧
  w'.cell? ⟨g, 0, none⟩ = some (.int .i64 P) ∧ w'.cell? ⟨g, 1, none⟩ = some i2 ∧ w'.cell? ⟨g, 2, none⟩ = some r2 ∧ Below w.heap.size w w'
section
variable {w : World} {n g : Nat} {P : Int} {i r i2 r2 : Value}
theorem BxS.below {w' : World} (h : BxS w n g P i r i2 r2 w') : Below w.heap.size w w' := h.2.2.2.2.2.2
theorem BxS.drew {w' : World} (h : BxS w n g P i r i2 r2 w') : BxS w n g P i r i2 r2 w'.drew := by
  obtain ⟨a0, a1, a2, b0, b1, b2, p⟩ := h
  exact ⟨a0, a1, a2, b0, b1, b2, p.drew⟩
theorem BxS.keep {w' w2 : World} (h : BxS w n g P i r i2 r2 w') (hb : Below w'.heap.size w' w2) : BxS w n g P i r i2 r2 w2 := by
  obtain ⟨a0, a1, a2, b0, b1, b2, p⟩ := h
  exact ⟨by rw [hb.cell (cell_lt a0)]; exact a0, by rw [hb.cell (cell_lt a1)]; exact a1, by rw [hb.cell (cell_lt a2)]; exact a2,
    by rw [hb.cell (cell_lt b0)]; exact b0, by rw [hb.cell (cell_lt b1)]; exact b1, by rw [hb.cell (cell_lt b2)]; exact b2, p.trans (hb.mono p.size)⟩
end

set_option maxRecDepth 100000 in
set_option maxHeartbeats 8000000 in
theorem dishValidates_walk (P : Int) (ia : Option Addr) (its : List ItemL) (ic : Nat) (ra : Option Addr) (rls : List RuleL) (rc : Nat) (w : World) (h : BookRaw w P ia its ra rls) :
  Calls Try.prog 3 #[.agg #[.int .i64 P, .slice ia its.length ic, .slice ra rls.length rc]] w (BoolR w true) := by
  have S0 := ValS.made w P (.slice ia its.length ic) (.slice ra rls.length rc)
  have hRaw : BookRaw (w.alloc (.cells #[.int .i64 P, .slice ia its.length ic, .slice ra rls.length rc] 25)) P ia its ra rls := ⟨h.lo, h.hi, h.li, h.lr, h.items.below S0.below, h.rules.below S0.below⟩
  have HLg := hid (longBk_any P ia its ic ra rls rc _ hRaw)
  have HS0 := hid S0
  clear S0 hRaw
  cases hb : longBk its rls with
  | true =>
    rw [hb] at HLg
    clear hb
    go_enter Try.func3, Try.ntmps3
    go_wp2_with fail
    refine HLg.out.mono ?_
    rintro e w1 ⟨q1, rfl⟩
    have hS1 := HS0.out.keep q1
    go_wp2_with fail
    refine (knownD_any _).mono ?_
    rintro e w2 ⟨q2, rfl⟩
    go_wp2
    go_ret
    exact ⟨(hS1.keep q2).below, rfl⟩
  | false =>
    have hBk := h.book hb
    obtain ⟨l1, l2, l3, l4⟩ := longBk_lens hb
    rw [hb] at HLg
    have HCp := hid (fun (w' : World) (hb : Below w.heap.size w w') => copyBk_any P ia its ic ra rls rc w' (hBk.below hb) l1 l2 l3 l4)
    have HV := hid (fun (w' : World) (hb : Below w.heap.size w w') => rvalidB_any P ia its ic ra rls rc w' (hBk.below hb))
    have HSm := hid (fun (A : Option Addr) (c : Nat) (R : Option Addr) (d : Nat) (w' : World) (ho : BookAt w' P A its R rls) (hb : Below w.heap.size w w') => sameBk_any P A its c R rls d ia ic ra rc w' ho (hBk.below hb))
    have HVo := hid (fun (A : Option Addr) (c : Nat) (R : Option Addr) (d : Nat) (w' : World) (ho : BookAt w' P A its R rls) => validateB_any P A its c R rls d w' ho)
    clear l1 l2 l3 l4 hBk h hb
    generalize validB P its rls = x at *
    have hxx : (x == x) = true := by simp
    go_enter Try.func3, Try.ntmps3
    go_wp2_with fail
    refine HLg.out.mono ?_
    rintro e w1 ⟨q1, rfl⟩
    have HS1 := hid (HS0.out.keep q1)
    have a0 := HS1.out.1
    have a1 := HS1.out.2.1
    have a2 := HS1.out.2.2.1
    clear q1 HLg HS0
    go_wp2_with fail
    refine (HCp.out _ HS1.out.below).mono ?_
    rintro e w2 ⟨q2, A, c, R, d, rfl, hO⟩
    have HS2 := hid (HS1.out.keep q2)
    have a0 := HS2.out.1
    have a1 := HS2.out.2.1
    have a2 := HS2.out.2.2.1
    have HO := hid (fun (w' : World) (hb : Below w2.heap.size w2 w') => hO.below hb)
    clear q2 HCp HS1 hO
    go_upto_region 4 with (fail)
    have hA3 : Below w2.heap.size w2 (w2.alloc (.cells #[.int .i64 P, .slice A its.length c, .slice R rls.length d] 25)) := (Below.refl _ _).alloc (Nat.le_refl _) _
    have HB3 := hid (show BxS w2 w.heap.size w2.heap.size P (.slice ia its.length ic) (.slice ra rls.length rc) (.slice A its.length c) (.slice R rls.length d) (w2.alloc (.cells #[.int .i64 P, .slice A its.length c, .slice R rls.length d] 25)) from
      ⟨by rw [hA3.cell (cell_lt a0)]; exact a0, by rw [hA3.cell (cell_lt a1)]; exact a1, by rw [hA3.cell (cell_lt a2)]; exact a2, by go_simp, by go_simp, by go_simp, hA3⟩)
    generalize w2.alloc (.cells #[.int .i64 P, .slice A its.length c, .slice R rls.length d] 25) = w3 at *
    have q0 := HB3.out.1
    have q1 := HB3.out.2.1
    have q2 := HB3.out.2.2.1
    have q3 := HB3.out.2.2.2.1
    have q4 := HB3.out.2.2.2.2.1
    have q5 := HB3.out.2.2.2.2.2.1
    have HW2 := hid (HS2.out.below)
    clear hA3 HS2
    go_region_held3 (fun w' => w'.cell? ⟨w.heap.size, 0, none⟩ = some (.int .i64 P) ∧ w'.cell? ⟨w.heap.size, 1, none⟩ = some (.slice ia its.length ic) ∧ w'.cell? ⟨w.heap.size, 2, none⟩ = some (.slice ra rls.length rc) ∧ w'.cell? ⟨w2.heap.size, 0, none⟩ = some (.int .i64 P) ∧ w'.cell? ⟨w2.heap.size, 1, none⟩ = some (.slice A its.length c) ∧ w'.cell? ⟨w2.heap.size, 2, none⟩ = some (.slice R rls.length d) ∧ Below w2.heap.size w2 w')
      (first | exact HB3.out.drew | exact HB3.out | exact BxS.keep (by assumption) (by assumption))
      (first
        | (go_at_call 17; refine (HVo.out A c R d _ (HO.out _ (by first | exact BxS.below (by assumption)))).mono ?_; rintro en w4 ⟨hb4, rfl⟩)
        | (go_at_call 18; refine (HV.out _ (HW2.out.trans ((BxS.below (by assumption)).mono HW2.out.size))).mono ?_; rintro en w5 ⟨hb5, rfl⟩)
        | (go_at_call 19; refine (HSm.out A c R d _ (HO.out _ (BxS.below (by assumption))) (HW2.out.trans ((BxS.below (by assumption)).mono HW2.out.size))).mono ?_; rintro en w6 ⟨hb6, rfl⟩)
        | (go_at_call 15; refine (knownD_any _).mono ?_; rintro en w7 ⟨hb7, rfl⟩))
    have hK7 : BxS w2 w.heap.size w2.heap.size P (.slice ia its.length ic) (.slice ra rls.length rc) (.slice A its.length c) (.slice R rls.length d) w7 := by assumption
    have HF := hid (HW2.out.trans (hK7.below.mono HW2.out.size))
    go_wp2
    go_ret
    exact ⟨HF.out, rfl⟩
end Go.Proofs.Ytdgleicpcjfnoaa
