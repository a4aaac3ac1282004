/- What is known and why: the answers, as plain values. -/
import Derived.Test.YtkepjoociidkcaaOrV
set_option linter.unusedVariables false
namespace Go.Proofs.Ytkepjoociidkcaa
open Go.RowKit

def askE (l : List Fct) (c d : Int) : Int := chkE l (inI c 0 99 && inI d 0 999)
def knownL (l : List Fct) (at_ c d : Int) : Int × Int := if askE l c d = 0 then (mealK l c d (cutL at_ l), 0) else (0, askE l c d)
def reasonL (l : List Fct) (at_ c d : Int) : Int × Bool × Int := if askE l c d = 0 then (match whyTo l c d (cutL at_ l) with | none => (0, false, 0) | some i => ((i : Int), true, 0)) else (0, false, askE l c d)
theorem askE_ok {l : List Fct} {c d : Int} (h : askE l c d = 0) : l.length ≤ 60 ∧ (∀ f ∈ l, factB f = true) ∧ (∀ i j, i ≤ j → j < l.length → (fAt l i).a ≤ (fAt l j).a) ∧ (0 ≤ c ∧ c ≤ 99) ∧ 0 ≤ d ∧ d ≤ 999 := by
  obtain ⟨h1, h2⟩ := chkE_ok h
  obtain ⟨a, b, e⟩ := validE_ok h1
  simp [inI_iff] at h2
  exact ⟨a, b, e, h2.1, h2.2⟩
def KnownR (w : World) (x : Int × Int) (en : Ending) (w' : World) : Prop := Below w.heap.size w w' ∧ en = .returned (.tuple #[.int .i64 x.1, .int .i64 x.2])
def ReasonR (w : World) (x : Int × Bool × Int) (en : Ending) (w' : World) : Prop := Below w.heap.size w w' ∧ en = .returned (.tuple #[.int .i64 x.1, .bool x.2.1, .int .i64 x.2.2])

set_option maxHeartbeats 4000000 in
theorem Known_any (a : Option Addr) (l : List Fct) (cap : Nat) (at_ c d : Int) (w : World) (hl : FactsAt w a l) (hcap : l.length ≤ cap) :
  Calls Try.prog 21 #[.slice a l.length cap, .int .i64 at_, .int .i64 c, .int .i64 d] w (KnownR w (knownL l at_ c d)) := by
  have hlen := hl.len
  have HV := hid (check_any a l cap (inI c 0 99 && inI d 0 999) w hl)
  by_cases h0 : askE l c d = 0
  · have HM := hid (show knownL l at_ c d = (mealK l c d (cutL at_ l), 0) from if_pos h0)
    obtain ⟨h3, h4, h5, h6, h7⟩ := askE_ok h0
    have g1 : inI c 0 99 = true := inI_iff.2 h6
    have g2 : inI d 0 999 = true := inI_iff.2 h7
    have HV : Hid (Calls Try.prog 51 #[.slice a l.length cap, .bool true] w (IntR w 0)) := by
      have := HV.out
      unfold askE at h0
      rw [h0, g1, g2] at this
      exact this
    have hcl := cutL_le at_ l
    have HL := hid hl
    have HSo := hid h5
    have HMe := hid (mealR_rec l c d (cutL at_ l))
    clear h0 h4 h5 hl
    go_enter Try.func21, Try.ntmps21
    go_wp2_with fail
    refine (isChild_any _ _).mono ?_
    rintro e w' ⟨rfl, rfl⟩
    rw [g1]
    go_wp2_with fail
    refine (isDay_any _ _).mono ?_
    rintro e w' ⟨rfl, rfl⟩
    rw [g2]
    go_wp2_with fail
    refine HV.out.mono ?_
    rintro e w1 ⟨q1, rfl⟩
    have HW := hid (written_any a l cap at_ w1 (HL.out.below q1) HSo.out hcap)
    go_wp2_with fail
    refine HW.out.mono ?_
    rintro e w2 ⟨q2, rfl⟩
    have p2 := q1.trans (q2.mono q1.size)
    have HR := hid (recordOf_any a l (cutL at_ l) (cutL at_ l) c w2 (HL.out.below p2) hcl (by omega))
    go_wp2_with fail
    refine HR.out.mono ?_
    rintro e w3 ⟨q3, A, cc, rfl, hA⟩
    have p3 := p2.trans (q3.mono p2.size)
    have HS := hid (meal_any A _ cc d w3 hA)
    go_wp2_with fail
    refine HS.out.mono ?_
    rintro e w4 ⟨q4, rfl⟩
    go_wp2
    go_ret2
    exact ⟨p3.trans (q4.mono p3.size), by rw [HM.out, HMe.out]; rfl⟩
  · have HM := hid (show knownL l at_ c d = (0, askE l c d) from if_neg h0)
    have h0' : (askE l c d != 0) = true := by simp [h0]
    have HV : Hid (Calls Try.prog 51 #[.slice a l.length cap, .bool (inI c 0 99 && inI d 0 999)] w (IntR w (askE l c d))) := HV.out
    clear h0 hl
    generalize askE l c d = x at *
    cases g1 : inI c 0 99 with
    | false =>
      rw [g1] at HV
      go_enter Try.func21, Try.ntmps21
      go_wp2_with fail
      refine (isChild_any _ _).mono ?_
      rintro e w' ⟨rfl, rfl⟩
      rw [g1]
      go_wp2_with fail
      refine HV.out.mono ?_
      rintro e w1 ⟨q1, rfl⟩
      go_wp2
      go_ret2
      exact ⟨q1, by rw [HM.out]; rfl⟩
    | true =>
      rw [g1] at HV
      go_enter Try.func21, Try.ntmps21
      go_wp2_with fail
      refine (isChild_any _ _).mono ?_
      rintro e w' ⟨rfl, rfl⟩
      rw [g1]
      go_wp2_with fail
      refine (isDay_any _ _).mono ?_
      rintro e w' ⟨rfl, rfl⟩
      go_wp2_with fail
      refine HV.out.mono ?_
      rintro e w1 ⟨q1, rfl⟩
      go_wp2
      go_ret2
      exact ⟨q1, by rw [HM.out]; rfl⟩

set_option maxHeartbeats 4000000 in
theorem Reason_any (a : Option Addr) (l : List Fct) (cap : Nat) (at_ c d : Int) (w : World) (hl : FactsAt w a l) (hcap : l.length ≤ cap) :
  Calls Try.prog 23 #[.slice a l.length cap, .int .i64 at_, .int .i64 c, .int .i64 d] w (ReasonR w (reasonL l at_ c d)) := by
  have hlen := hl.len
  have HV := hid (check_any a l cap (inI c 0 99 && inI d 0 999) w hl)
  by_cases h0 : askE l c d = 0
  · have HM := hid (show reasonL l at_ c d = (match whyTo l c d (cutL at_ l) with | none => (0, false, 0) | some i => ((i : Int), true, 0)) from if_pos h0)
    obtain ⟨h3, h4, h5, h6, h7⟩ := askE_ok h0
    have g1 : inI c 0 99 = true := inI_iff.2 h6
    have g2 : inI d 0 999 = true := inI_iff.2 h7
    have HV : Hid (Calls Try.prog 51 #[.slice a l.length cap, .bool true] w (IntR w 0)) := by
      have := HV.out
      unfold askE at h0
      rw [h0, g1, g2] at this
      exact this
    have hcl := cutL_le at_ l
    have HL := hid hl
    have HSo := hid h5
    have HMe := hid (lastK_rec l c d (cutL at_ l))
    clear h0 h4 h5 hl
    go_enter Try.func23, Try.ntmps23
    go_wp2_with fail
    refine (isChild_any _ _).mono ?_
    rintro e w' ⟨rfl, rfl⟩
    rw [g1]
    go_wp2_with fail
    refine (isDay_any _ _).mono ?_
    rintro e w' ⟨rfl, rfl⟩
    rw [g2]
    go_wp2_with fail
    refine HV.out.mono ?_
    rintro e w1 ⟨q1, rfl⟩
    have HW := hid (written_any a l cap at_ w1 (HL.out.below q1) HSo.out hcap)
    go_wp2_with fail
    refine HW.out.mono ?_
    rintro e w2 ⟨q2, rfl⟩
    have p2 := q1.trans (q2.mono q1.size)
    have HR := hid (recordOf_any a l (cutL at_ l) (cutL at_ l) c w2 (HL.out.below p2) hcl (by omega))
    go_wp2_with fail
    refine HR.out.mono ?_
    rintro e w3 ⟨q3, A, cc, rfl, hA⟩
    have p3 := p2.trans (q3.mono p2.size)
    have HS := hid (last_any A _ cc d w3 hA)
    cases hk : whyTo l c d (cutL at_ l) with
    | none =>
      rw [HMe.out, hk] at HS
      rw [hk] at HM
      go_wp2_with fail
      refine HS.out.mono ?_
      rintro e w4 ⟨q4, rfl⟩
      have p4 := p3.trans (q4.mono p3.size)
      unfold lastV
      go_wp2
      refine bodyPost_ret (v := .tuple #[.int .i64 0, .bool false, .int .i64 0]) (by simp [results, Try.results23, go_sem]) rfl ?_
      exact ⟨p4.alloc p4.size _, by rw [HM.out]⟩
    | some i =>
      rw [HMe.out, hk] at HS
      rw [hk] at HM
      go_wp2_with fail
      refine HS.out.mono ?_
      rintro e w4 ⟨q4, rfl⟩
      have p4 := p3.trans (q4.mono p3.size)
      unfold lastV
      dsimp only [Option.map]
      go_wp2
      refine bodyPost_ret (v := .tuple #[.int .i64 (i : Int), .bool true, .int .i64 0]) (by simp [results, Try.results23, go_sem]) rfl ?_
      exact ⟨p4.alloc p4.size _, by rw [HM.out]⟩
  · have HM := hid (show reasonL l at_ c d = (0, false, askE l c d) from if_neg h0)
    have h0' : (askE l c d != 0) = true := by simp [h0]
    have HV : Hid (Calls Try.prog 51 #[.slice a l.length cap, .bool (inI c 0 99 && inI d 0 999)] w (IntR w (askE l c d))) := HV.out
    clear h0 hl
    generalize askE l c d = x at *
    cases g1 : inI c 0 99 with
    | false =>
      rw [g1] at HV
      go_enter Try.func23, Try.ntmps23
      go_wp2_with fail
      refine (isChild_any _ _).mono ?_
      rintro e w' ⟨rfl, rfl⟩
      rw [g1]
      go_wp2_with fail
      refine HV.out.mono ?_
      rintro e w1 ⟨q1, rfl⟩
      go_wp2
      refine bodyPost_ret (v := .tuple #[.int .i64 0, .bool false, .int .i64 x]) (by simp [results, Try.results23, go_sem]) rfl ?_
      exact ⟨q1, by rw [HM.out]⟩
    | true =>
      rw [g1] at HV
      go_enter Try.func23, Try.ntmps23
      go_wp2_with fail
      refine (isChild_any _ _).mono ?_
      rintro e w' ⟨rfl, rfl⟩
      rw [g1]
      go_wp2_with fail
      refine (isDay_any _ _).mono ?_
      rintro e w' ⟨rfl, rfl⟩
      go_wp2_with fail
      refine HV.out.mono ?_
      rintro e w1 ⟨q1, rfl⟩
      go_wp2
      refine bodyPost_ret (v := .tuple #[.int .i64 0, .bool false, .int .i64 x]) (by simp [results, Try.results23, go_sem]) rfl ?_
      exact ⟨q1, by rw [HM.out]⟩

set_option maxHeartbeats 2000000 in
theorem rKnown_any (a : Option Addr) (l : List Fct) (cap : Nat) (at_ c d : Int) (w : World) (hl : FactsAt w a l) :
  Calls Try.prog 22 #[.slice a l.length cap, .int .i64 at_, .int .i64 c, .int .i64 d] w (KnownR w (knownL l at_ c d)) := by
  have hlen := hl.len
  have HV := hid (show Calls Try.prog 57 #[.slice a l.length cap, .int .i64 c, .int .i64 d] w (IntR w (askE l c d)) from asked_any a l cap c d w hl)
  by_cases h0 : askE l c d = 0
  · have HM := hid (show knownL l at_ c d = (refMeal l at_ c d, 0) by rw [refMeal_cut (askE_ok h0).2.2.1]; exact if_pos h0)
    rw [h0] at HV
    have HL := hid hl
    clear h0 hl
    go_enter Try.func22, Try.ntmps22
    go_wp2_with fail
    refine HV.out.mono ?_
    rintro e w1 ⟨q1, rfl⟩
    have HK := hid (rknown_any a l cap at_ c d w1 (HL.out.below q1))
    go_wp2_with fail
    refine HK.out.mono ?_
    rintro e w' ⟨rfl, rfl⟩
    go_wp2
    go_ret2
    exact ⟨q1, by rw [HM.out]; rfl⟩
  · have HM := hid (show knownL l at_ c d = (0, askE l c d) from if_neg h0)
    have h0' : (askE l c d != 0) = true := by simp [h0]
    clear h0 hl
    generalize askE l c d = x at *
    go_enter Try.func22, Try.ntmps22
    go_wp2_with fail
    refine HV.out.mono ?_
    rintro e w1 ⟨q1, rfl⟩
    go_wp2
    go_ret2
    exact ⟨q1, by rw [HM.out]; rfl⟩
set_option maxHeartbeats 2000000 in
theorem rReason_any (a : Option Addr) (l : List Fct) (cap : Nat) (at_ c d : Int) (w : World) (hl : FactsAt w a l) :
  Calls Try.prog 24 #[.slice a l.length cap, .int .i64 at_, .int .i64 c, .int .i64 d] w (ReasonR w (reasonL l at_ c d)) := by
  have hlen := hl.len
  have HV := hid (show Calls Try.prog 57 #[.slice a l.length cap, .int .i64 c, .int .i64 d] w (IntR w (askE l c d)) from asked_any a l cap c d w hl)
  by_cases h0 : askE l c d = 0
  · have HM := hid (show reasonL l at_ c d = (match whyTo l c d (cutL at_ l) with | none => (0, false, 0) | some i => ((i : Int), true, 0)) from if_pos h0)
    have HC := hid (refTo_cut (askE_ok h0).2.2.1 at_ c d)
    rw [h0] at HV
    have HL := hid hl
    clear h0 hl
    go_enter Try.func24, Try.ntmps24
    go_wp2_with fail
    refine HV.out.mono ?_
    rintro e w1 ⟨q1, rfl⟩
    have HK := hid (rreason_any a l cap at_ c d w1 (HL.out.below q1))
    cases hk : whyTo l c d (cutL at_ l) with
    | none =>
      rw [HC.out, hk] at HK
      rw [hk] at HM
      go_wp2_with fail
      refine HK.out.mono ?_
      rintro e w' ⟨rfl, rfl⟩
      unfold whyI
      go_wp2
      refine bodyPost_ret (v := .tuple #[.int .i64 0, .bool false, .int .i64 0]) (by simp [results, Try.results24, go_sem]) rfl ?_
      exact ⟨q1, by rw [HM.out]⟩
    | some i =>
      rw [HC.out, hk] at HK
      rw [hk] at HM
      go_wp2_with fail
      refine HK.out.mono ?_
      rintro e w' ⟨rfl, rfl⟩
      unfold whyI
      go_wp2
      refine bodyPost_ret (v := .tuple #[.int .i64 (i : Int), .bool true, .int .i64 0]) (by simp [results, Try.results24, go_sem]) rfl ?_
      exact ⟨q1, by rw [HM.out]⟩
  · have HM := hid (show reasonL l at_ c d = (0, false, askE l c d) from if_neg h0)
    have h0' : (askE l c d != 0) = true := by simp [h0]
    clear h0 hl
    generalize askE l c d = x at *
    go_enter Try.func24, Try.ntmps24
    go_wp2_with fail
    refine HV.out.mono ?_
    rintro e w1 ⟨q1, rfl⟩
    go_wp2
    refine bodyPost_ret (v := .tuple #[.int .i64 0, .bool false, .int .i64 x]) (by simp [results, Try.results24, go_sem]) rfl ?_
    exact ⟨q1, by rw [HM.out]⟩
end Go.Proofs.Ytkepjoociidkcaa
