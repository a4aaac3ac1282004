/- Spans and Changed of the document. -/
import Derived.Test.YtkepjoociidkcaaOrN
import Derived.Test.YtkepjoociidkcaaOrL
set_option linter.unusedVariables false
namespace Go.Proofs.Ytkepjoociidkcaa
open Go.RowKit

theorem optG_eq (g : Int → Int × Bool) (d : Int) (m : Int) (b : Bool) (h : g d = (m, b)) : optG g d = if b = true then some m else none := by unfold optG; rw [h]
theorem changed_eq {l : List Fct} (hs : ∀ i j, i ≤ j → j < l.length → (fAt l i).a ≤ (fAt l j).a) (c be at_ : Int) :
    spTo (optG (gC (recTo l c (cutL at_ l)) (recTo l c (cutL be l)))) 1000 = spTo (gRef l c be at_) 1000 := by
  apply spTo_congr
  intro i _
  rw [optG_eq _ _ _ _ rfl]
  unfold gRef
  rw [refMeal_cut hs, refMeal_cut hs, mealR_rec, mealR_rec]
  by_cases h : mealK l c (i : Int) (cutL at_ l) = mealK l c (i : Int) (cutL be l)
  · rw [if_pos h, h]; simp
  · rw [if_neg h]; simp [h]
theorem cut_none {l : List Fct} (hf : ∀ f ∈ l, factB f = true) : cutL (-1) l = 0 := by
  cases l with
  | nil => rfl
  | cons x r =>
    have := (factB_iff.1 (hf x (by simp))).1
    unfold cutL
    rw [if_neg (by omega)]
theorem spans_eq {l : List Fct} (hf : ∀ f ∈ l, factB f = true) (hs : ∀ i j, i ≤ j → j < l.length → (fAt l i).a ≤ (fAt l j).a) (c at_ : Int) :
    spTo (optG (gS (recTo l c (cutL at_ l)))) 1000 = spTo (gRef l c (-1) at_) 1000 := by
  apply spTo_congr
  intro i _
  rw [optG_eq _ _ _ _ rfl]
  unfold gRef
  rw [refMeal_cut hs, refMeal_cut hs, mealR_rec, cut_none hf]
  have e0 : mealK l c (i : Int) 0 = 0 := rfl
  rw [e0]
  by_cases h : mealK l c (i : Int) (cutL at_ l) = 0
  · rw [if_pos h, h]; simp
  · rw [if_neg h]; simp [h]

set_option maxHeartbeats 1000000 in
theorem rordered_own (a : Option Addr) (l : List Fct) (cap : Nat) (at_ c : Int) (w : World) (hl : FactsAt w a l) :
  Calls Try.prog 62 #[.slice a l.length cap, .int .i64 at_, .int .i64 c] w (SpnsO w (spTo (gRef l c (-1) at_) 1000)) := by
  have HS := hid (rspans_own a l cap (-1) at_ c w hl)
  have hlen := hl.len
  clear hl
  go_enter Try.func62, Try.ntmps62
  go_wp2_with fail
  refine HS.out.mono ?_
  rintro e w1 ⟨q1, A, cc, rfl, hA, hN⟩
  go_wp2
  go_ret
  exact ⟨q1, A, cc, rfl, hA, hN⟩
theorem rordered_any (a : Option Addr) (l : List Fct) (cap : Nat) (at_ c : Int) (w : World) (hl : FactsAt w a l) :
  Calls Try.prog 62 #[.slice a l.length cap, .int .i64 at_, .int .i64 c] w (SpnsR w (spTo (gRef l c (-1) at_) 1000)) :=
  (rordered_own a l cap at_ c w hl).mono fun _ _ h => h.r

theorem ask0 (l : List Fct) (c : Int) : askE l c 0 = chkE l (inI c 0 99) := by
  unfold askE
  rw [show inI 0 0 999 = true from rfl, Bool.and_true]
set_option maxHeartbeats 2000000 in
theorem rSpans_any (a : Option Addr) (l : List Fct) (cap : Nat) (at_ c : Int) (w : World) (hl : FactsAt w a l) :
  Calls Try.prog 26 #[.slice a l.length cap, .int .i64 at_, .int .i64 c] w (SpansR w (spansL l at_ c)) := by
  have hlen := hl.len
  have HV := hid (show Calls Try.prog 57 #[.slice a l.length cap, .int .i64 c, .int .i64 0] w (IntR w (askE l c 0)) from asked_any a l cap c 0 w hl)
  rw [ask0] at HV
  by_cases h0 : chkE l (inI c 0 99) = 0
  · obtain ⟨_, hf, hs⟩ := validE_ok (chkE_ok h0).1
    have HM := hid (show spansL l at_ c = (spTo (gRef l c (-1) at_) 1000, 0) by rw [← spans_eq hf hs]; exact if_pos h0)
    rw [h0] at HV
    have HL := hid hl
    clear h0 hl hf hs
    go_enter Try.func26, Try.ntmps26
    go_wp2_with fail
    refine HV.out.mono ?_
    rintro e w1 ⟨q1, rfl⟩
    have HS := hid (rordered_any a l cap at_ c w1 (HL.out.below q1))
    go_wp2_with fail
    refine HS.out.mono ?_
    rintro e w2 ⟨q2, A, cc, rfl, hA⟩
    go_wp2
    go_ret2
    exact ⟨q1.trans (q2.mono q1.size), A, cc, by rw [HM.out]; rfl, by rw [HM.out]; exact hA⟩
  · have HM := hid (show spansL l at_ c = ([], chkE l (inI c 0 99)) from if_neg h0)
    have h0' : (chkE l (inI c 0 99) != 0) = true := by simp [h0]
    clear h0 hl
    generalize chkE l (inI c 0 99) = x at *
    go_enter Try.func26, Try.ntmps26
    go_wp2_with fail
    refine HV.out.mono ?_
    rintro e w1 ⟨q1, rfl⟩
    go_wp2
    go_ret2
    exact ⟨q1, none, 0, by rw [HM.out]; rfl, by rw [HM.out]; exact spnsNil _⟩
set_option maxHeartbeats 2000000 in
theorem rChanged_any (a : Option Addr) (l : List Fct) (cap : Nat) (be at_ c : Int) (w : World) (hl : FactsAt w a l) :
  Calls Try.prog 29 #[.slice a l.length cap, .int .i64 be, .int .i64 at_, .int .i64 c] w (SpansR w (changedL l be at_ c)) := by
  have hlen := hl.len
  have HV := hid (show Calls Try.prog 57 #[.slice a l.length cap, .int .i64 c, .int .i64 0] w (IntR w (askE l c 0)) from asked_any a l cap c 0 w hl)
  rw [ask0] at HV
  by_cases h0 : chkE l (inI c 0 99) = 0
  · obtain ⟨_, hf, hs⟩ := validE_ok (chkE_ok h0).1
    have HM := hid (show changedL l be at_ c = (spTo (gRef l c be at_) 1000, 0) by rw [← changed_eq hs]; exact if_pos h0)
    rw [h0] at HV
    have HL := hid hl
    clear h0 hl hf hs
    go_enter Try.func29, Try.ntmps29
    go_wp2_with fail
    refine HV.out.mono ?_
    rintro e w1 ⟨q1, rfl⟩
    have HS := hid (rspans_any a l cap be at_ c w1 (HL.out.below q1))
    go_wp2_with fail
    refine HS.out.mono ?_
    rintro e w2 ⟨q2, A, cc, rfl, hA⟩
    go_wp2
    go_ret2
    exact ⟨q1.trans (q2.mono q1.size), A, cc, by rw [HM.out]; rfl, by rw [HM.out]; exact hA⟩
  · have HM := hid (show changedL l be at_ c = ([], chkE l (inI c 0 99)) from if_neg h0)
    have h0' : (chkE l (inI c 0 99) != 0) = true := by simp [h0]
    clear h0 hl
    generalize chkE l (inI c 0 99) = x at *
    go_enter Try.func29, Try.ntmps29
    go_wp2_with fail
    refine HV.out.mono ?_
    rintro e w1 ⟨q1, rfl⟩
    go_wp2
    go_ret2
    exact ⟨q1, none, 0, by rw [HM.out]; rfl, by rw [HM.out]; exact spnsNil _⟩
end Go.Proofs.Ytkepjoociidkcaa
