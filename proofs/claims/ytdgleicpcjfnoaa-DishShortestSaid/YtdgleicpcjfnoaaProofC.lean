/- CheckProof of package dish. -/
import Derived.Test.YtdgleicpcjfnoaaProofB
import Derived.Test.YtdgleicpcjfnoaaRBook
import Derived.Deep.RegionHeld3
set_option linter.unusedVariables false
set_option linter.unusedSimpArgs false
namespace Go.Proofs.Ytdgleicpcjfnoaa
open Go.RowKit

set_option maxRecDepth 100000 in
theorem run_steps_to (b off n c k : Nat) (hk : k ≤ n) (hn : n ≤ c) (h0 : 0 < n) : ∀ W : World, (Instr.sliceAt 42 (.slice (some ⟨b, off, none⟩) n c) none (some (.int .i64 (k : Int))) none).run Try.prog W = .ok (.slice (some ⟨b, off, none⟩) k c) W := by
  obtain ⟨i0, hinf, hz0, hz1, hz2⟩ := info_parts step_info
  intro W
  have hb := run_sliceBound (P := Try.prog) (w := W) .i64 (k : Int) c .sliceAcap (by omega) (by omega)
  have hc : ¬ c = 0 := by omega
  simp [Instr.sliceAt, Instr.slice, Instr.sliceBounds, run_underlying Try.underlying42, hb, sizeOf, typeInfo, hinf, go_sem, hc, Addr.add]
theorem StepsAt.take {w : World} {a : Option Addr} {l : List StepL} (h : StepsAt w a l) (k : Nat) : StepsAt w a (l.take k) := by
  refine ⟨by rw [List.length_take]; have := h.len; omega, ?_⟩
  rcases h.at_ with rfl | ⟨b, off, ha, hc⟩
  · left; simp
  · right
    refine ⟨b, off, ha, fun i hi => ?_⟩
    rw [List.length_take] at hi
    rw [List.getElem?_take_of_lt (by omega)]
    exact hc i (by omega)
/-- What the calls keep: the box of a book and the box g of a step. -/
def BkSt (w wr : World) (P : Int) (i r : Value) (g : Nat) (p f q : Int) (w' : World) : Prop :=
  w'.cell? ⟨w.heap.size, 0, none⟩ = some (.int .i64 P) ∧ w'.cell? ⟨w.heap.size, 1, none⟩ = some i ∧ w'.cell? ⟨w.heap.size, 2, none⟩ = some r ∧
  w'.cell? ⟨g, 0, none⟩ = some (.int .i64 p) ∧ w'.cell? ⟨g, 1, none⟩ = some (.int .i64 f) ∧ w'.cell? ⟨g, 2, none⟩ = some (.int .i64 q) ∧ Below wr.heap.size wr w'
section
variable {w wr : World} {P : Int} {i r : Value} {g : Nat} {p f q : Int}
theorem BkSt.below {w' : World} (h : BkSt w wr P i r g p f q w') : Below wr.heap.size wr w' := h.2.2.2.2.2.2
theorem BkSt.drew {w' : World} (h : BkSt w wr P i r g p f q w') : BkSt w wr P i r g p f q w'.drew := by
  obtain ⟨a0, a1, a2, b0, b1, b2, hb⟩ := h
  exact ⟨a0, a1, a2, b0, b1, b2, hb.drew⟩
theorem BkSt.keep {w' w2 : World} (h : BkSt w wr P i r g p f q w') (hb : Below w'.heap.size w' w2) : BkSt w wr P i r g p f q w2 := by
  obtain ⟨a0, a1, a2, b0, b1, b2, hb2⟩ := h
  exact ⟨by rw [hb.cell (cell_lt a0)]; exact a0, by rw [hb.cell (cell_lt a1)]; exact a1, by rw [hb.cell (cell_lt a2)]; exact a2,
    by rw [hb.cell (cell_lt b0)]; exact b0, by rw [hb.cell (cell_lt b1)]; exact b1, by rw [hb.cell (cell_lt b2)]; exact b2, hb2.trans (hb.mono hb2.size)⟩
theorem BkSt.vals {w' : World} (h : BkSt w wr P i r g p f q w') (hw : Below w.heap.size w wr) : ValS w P i r w' := ⟨h.1, h.2.1, h.2.2.1, hw.trans (h.below.mono hw.size)⟩
end

set_option maxRecDepth 100000 in
set_option maxHeartbeats 4000000 in
theorem checkProof_any (P : Int) (ia : Option Addr) (its : List ItemL) (ic : Nat) (ra : Option Addr) (rls : List RuleL) (rc : Nat) (item prop : Int) (a : Option Addr) (l : List StepL) (cap : Nat) (w : World) (h : BookAt w P ia its ra rls) (hs : StepsAt w a l) (hc : l.length ≤ cap) :
  Calls Try.prog 28 #[.agg #[.int .i64 P, .slice ia its.length ic, .slice ra rls.length rc], .int .i64 item, .int .i64 prop, .slice a l.length cap] w (IntR w (proofE P its rls item prop l)) := by
  have S0 := ValS.made w P (.slice ia its.length ic) (.slice ra rls.length rc)
  have HC := hid (checkProp_any P ia its ic ra rls rc item prop _ (h.below S0.below))
  have HS0 := hid S0
  have hlen := hs.len
  clear S0
  by_cases h0 : propE P its rls item prop = 0
  · obtain ⟨hv, ⟨hi0, hi1⟩, hp0, hp1⟩ := propE_ok h0
    have HE := hid (show proofE P its rls item prop l = if 40 < l.length then 4 else if stepsB its rls (contL its item.toNat) 0 l = false then 8 else if lastP l = prop then 0 else 8 by unfold proofE; rw [if_neg (by simp [h0])])
    rw [h0] at HC
    obtain ⟨n, rfl⟩ := Int.eq_ofNat_of_zero_le hi0
    rw [Int.toNat_natCast] at HE
    clear h0 hi0
    have hn : n < its.length := by omega
    have HR := hid (fun (k : Nat) (w' : World) (hb : Below w.heap.size w w') (hk : stepsB its rls (contL its n) 0 (l.take k) = true) => isRight_any P ia its ic ra rls rc n (l[k]?.getD (0, 0, 0)) a (l.take k) cap w' (h.below hb) hv hn ((hs.take k).below hb) (fun s hh => by have := stepsB_ok hv _ _ hk s hh; have := (validB_ok hv).2.1; omega))
    have HSt := hid (fun (w' : World) (hb : Below w.heap.size w w') => hs.below hb)
    generalize contL its n = C at *
    have HP0 := hid (show -1 ≠ prop by omega)
    clear hv hn h hs hp0 hp1
    by_cases h1 : 40 < l.length
    · have HX := hid ((HE.out).trans (if_pos h1))
      go_enter Try.func28, Try.ntmps28
      go_wp2_with fail
      refine HC.out.mono ?_
      rintro e w1 ⟨q1, rfl⟩
      have HS1 := hid (HS0.out.keep q1)
      go_wp2
      go_ret
      exact ⟨HS1.out.below, by rw [HX.out]; rfl⟩
    · have HX := hid ((HE.out).trans (if_neg h1))
      clear HE
      go_enter Try.func28, Try.ntmps28
      go_wp2_with fail
      refine HC.out.mono ?_
      rintro e w1 ⟨q1, rfl⟩
      have HS1 := hid (HS0.out.keep q1)
      clear q1 HC HS0
      go_wp2
      go_loopw [24] (fun i wr => ∃ k : Nat, k ≤ l.length ∧ i = .int .i64 k ∧ Hid (stepsB its rls C 0 (l.take k) = true) ∧ Hid (ValS w P (.slice ia its.length ic) (.slice ra rls.length rc) wr)) (fun i _ => l.length - (intOf i).toNat)
      case atStart => exact ⟨0, Nat.zero_le _, rfl, rfl, HS1⟩
      case round =>
        clear HS1
        obtain ⟨k, hk, rfl, HT, HS⟩ := hrel
        by_cases hlt : k < l.length
        · rcases (HSt.out _ HS.out.below).at_ with e | ⟨b, off, rfl, hcl⟩
          · rw [e] at hlt; simp at hlt
          obtain ⟨c0, c1, c2⟩ := hcl k hlt
          have HRun := run_steps_to b off l.length cap k (by omega) hc (by omega)
          have HRk := hid (fun (w' : World) (hb : Below w.heap.size w w') => HR.out k w' hb HT.out)
          have HSu := hid (stepsB_succ its rls C l k hlt)
          have HLp := hid (lastP_take l k hlt)
          have a0 := HS.out.1
          have a1 := HS.out.2.1
          have a2 := HS.out.2.2.1
          have htl : (l.take k).length = k := by rw [List.length_take]; omega
          rw [htl] at HRk
          clear hcl htl
          generalize l[k]?.getD (0, 0, 0) = s at *
          obtain ⟨p, f, q⟩ := s
          dsimp only at c0 c1 c2 HRk
          generalize stepB its rls C (propsL (l.take k)) (p, f, q) = bs at *
          have hB1 : Below wr.heap.size wr (wr.alloc (.cells #[.int .i64 p, .int .i64 f, .int .i64 q] 53)) := (Below.refl _ _).alloc (Nat.le_refl _) _
          have HB1 := hid (show BkSt w wr P (.slice ia its.length ic) (.slice ra rls.length rc) wr.heap.size p f q (wr.alloc (.cells #[.int .i64 p, .int .i64 f, .int .i64 q] 53)) from
            ⟨by rw [hB1.cell (cell_lt a0)]; exact a0, by rw [hB1.cell (cell_lt a1)]; exact a1, by rw [hB1.cell (cell_lt a2)]; exact a2, by go_simp, by go_simp, by go_simp, hB1⟩)
          have HW := hid HS.out.below
          have hk0 : (0 : Int) ≤ (k : Int) := by omega
          have hk1 : (k : Int) < (l.length : Int) := by omega
          have HT2 := hid HT.out
          clear hB1 HS HT
          cases bs with
          | true =>
            go_wp2
            go_region_held3 (fun w' => w'.cell? ⟨w.heap.size, 0, none⟩ = some (.int .i64 P) ∧ w'.cell? ⟨w.heap.size, 1, none⟩ = some (.slice ia its.length ic) ∧ w'.cell? ⟨w.heap.size, 2, none⟩ = some (.slice ra rls.length rc) ∧ w'.cell? ⟨wr.heap.size, 0, none⟩ = some (.int .i64 p) ∧ w'.cell? ⟨wr.heap.size, 1, none⟩ = some (.int .i64 f) ∧ w'.cell? ⟨wr.heap.size, 2, none⟩ = some (.int .i64 q) ∧ Below wr.heap.size wr w')
              (first | exact HB1.out.drew | exact HB1.out | exact BkSt.keep (by assumption) (by assumption))
              ((go_at_call 65; refine (HRk.out _ (HW.out.trans ((BkSt.below (by assumption)).mono HW.out.size))).mono ?_; rintro en w4 ⟨hb4, rfl⟩))
            have hK7 : BkSt w wr P (.slice ia its.length ic) (.slice ra rls.length rc) wr.heap.size p f q w4 := by assumption
            have HF := hid (hK7.vals HW.out)
            clear hK7
            go_wp2
            go_roundw
            case rel => exact ⟨k + 1, by omega, by go_num, by rw [HSu.out, HT2.out]; rfl, HF⟩
            case measure => simp [intOf]; omega
          | false =>
            have HF8 := hid (stepsB_stop (its := its) (rls := rls) (C := C) (l := l) (k := k + 1) (by rw [HSu.out, HT2.out]; rfl))
            go_wp2
            go_region_held3 (fun w' => w'.cell? ⟨w.heap.size, 0, none⟩ = some (.int .i64 P) ∧ w'.cell? ⟨w.heap.size, 1, none⟩ = some (.slice ia its.length ic) ∧ w'.cell? ⟨w.heap.size, 2, none⟩ = some (.slice ra rls.length rc) ∧ w'.cell? ⟨wr.heap.size, 0, none⟩ = some (.int .i64 p) ∧ w'.cell? ⟨wr.heap.size, 1, none⟩ = some (.int .i64 f) ∧ w'.cell? ⟨wr.heap.size, 2, none⟩ = some (.int .i64 q) ∧ Below wr.heap.size wr w')
              (first | exact HB1.out.drew | exact HB1.out | exact BkSt.keep (by assumption) (by assumption))
              ((go_at_call 65; refine (HRk.out _ (HW.out.trans ((BkSt.below (by assumption)).mono HW.out.size))).mono ?_; rintro en w4 ⟨hb4, rfl⟩))
            have hK7 : BkSt w wr P (.slice ia its.length ic) (.slice ra rls.length rc) wr.heap.size p f q w4 := by assumption
            have HF := hid (hK7.vals HW.out)
            clear hK7
            go_wp2
            go_ret
            exact ⟨HF.out.below, by rw [HX.out, if_pos HF8.out]; rfl⟩
        · obtain rfl : k = l.length := by omega
          rw [List.take_length] at HT
          have HX2 := hid ((HX.out).trans (if_neg (by rw [HT.out]; simp)))
          have HB := hid HS.out.below
          have HLg := hid (lastP_get l)
          have HNil := hid (fun (h : l = []) => (show lastP l = -1 by rw [h]; rfl))
          rcases (HSt.out _ HS.out.below).at_ with e | ⟨b, off, rfl, hcl⟩
          · have HX3 := hid ((HX2.out).trans (if_neg (by rw [HNil.out e]; exact HP0.out)))
            subst e
            go_wp2
            go_ret
            exact ⟨HB.out, by rw [HX3.out]; rfl⟩
          · by_cases hz : l.length = 0
            · have e := List.eq_nil_of_length_eq_zero hz
              have HX3 := hid ((HX2.out).trans (if_neg (by rw [HNil.out e]; exact HP0.out)))
              subst e
              go_wp2
              go_ret
              exact ⟨HB.out, by rw [HX3.out]; rfl⟩
            · have hpos : 0 < l.length := by omega
              have c0 := (hcl (l.length - 1) (by omega)).1
              have hl := HLg.out hpos
              rw [← hl] at c0
              have HLl := hid hl
              clear hl hcl HS HT HX
              have e1 : ((l.length : Int) == 0) = false := beq_eq_false_iff_ne.2 (by omega)
              have e3 : 0 ≤ (l.length : Int) - 1 := by omega
              have e4 : (l.length : Int) - 1 < (l.length : Int) := by omega
              have e5 : 1 ≤ (l.length : Int) := by omega
              have e6 : ((l.length : Int) - 1).toNat = l.length - 1 := by omega
              generalize lastP l = y at *
              by_cases hy : y = prop
              · have hy1 : (y != prop) = false := by simp [hy]
                have HX3 := hid ((HX2.out).trans (if_pos hy))
                clear hy
                go_wp2
                go_ret
                exact ⟨HB.out, by rw [HX3.out]; rfl⟩
              · have hy1 : (y != prop) = true := by simp [hy]
                have HX3 := hid ((HX2.out).trans (if_neg hy))
                clear hy
                go_wp2
                go_ret
                exact ⟨HB.out, by rw [HX3.out]; rfl⟩
  · have HX := hid (show proofE P its rls item prop l = propE P its rls item prop by unfold proofE; rw [if_pos h0])
    have h0' : (propE P its rls item prop != 0) = true := by simp [h0]
    clear h0 h hs
    generalize propE P its rls item prop = x at *
    go_enter Try.func28, Try.ntmps28
    go_wp2_with fail
    refine HC.out.mono ?_
    rintro e w1 ⟨q1, rfl⟩
    have HS1 := hid (HS0.out.keep q1)
    go_wp2
    go_ret
    exact ⟨HS1.out.below, by rw [HX.out]; rfl⟩
end Go.Proofs.Ytdgleicpcjfnoaa
