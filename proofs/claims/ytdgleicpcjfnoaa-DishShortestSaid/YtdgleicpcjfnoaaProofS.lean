/- CheckProof of the document. -/
import Derived.Test.YtdgleicpcjfnoaaProofR
import Derived.Test.YtdgleicpcjfnoaaProofC
set_option linter.unusedVariables false
set_option linter.unusedSimpArgs false
namespace Go.Proofs.Ytdgleicpcjfnoaa
open Go.RowKit

theorem ValS.setCell {w : World} {P : Int} {i r : Value} {w' : World} (h : ValS w P i r w') (p : Addr) (u : Value) (hp : w.heap.size < p.block) : ValS w P i r (w'.setCell p u) := by
  obtain ⟨a0, a1, a2, q⟩ := h
  refine ⟨?_, ?_, ?_, q.setCell (by omega) u⟩
  · rw [World.cell?_setCell_far _ _ _ _ (by dsimp only; omega)]; exact a0
  · rw [World.cell?_setCell_far _ _ _ _ (by dsimp only; omega)]; exact a1
  · rw [World.cell?_setCell_far _ _ _ _ (by dsimp only; omega)]; exact a2

theorem mem_take {α : Type} (l : List α) (d : α) (k : Nat) (h : k < l.length) : l[k]?.getD d ∈ l.take (k + 1) := by
  rw [List.take_succ_eq_append_getElem h, List.getElem?_eq_getElem h]
  exact List.mem_append.2 (.inr (by simp))

set_option maxRecDepth 100000 in
set_option maxHeartbeats 1000000 in
theorem asked_any (P : Int) (ia : Option Addr) (its : List ItemL) (ic : Nat) (ra : Option Addr) (rls : List RuleL) (rc : Nat) (item prop : Int) (w : World) (h : BookAt w P ia its ra rls) :
  Calls Try.prog 66 #[.agg #[.int .i64 P, .slice ia its.length ic, .slice ra rls.length rc], .int .i64 item, .int .i64 prop] w (IntR w (propE P its rls item prop)) := by
  have S0 := ValS.made w P (.slice ia its.length ic) (.slice ra rls.length rc)
  have HC := hid (rnamed_any P ia its ic ra rls rc item _ (h.below S0.below))
  have HS0 := hid S0
  have HE := hid (show propE P its rls item prop = if checkIt P its rls item = 0 then (if 0 ≤ prop ∧ prop < P then 0 else 5) else checkIt P its rls item from rfl)
  clear h S0
  by_cases h0 : checkIt P its rls item = 0
  · have HE := hid ((HE.out).trans (if_pos h0))
    rw [h0] at HC
    clear h0
    by_cases hp0 : 0 ≤ prop
    · by_cases hp1 : prop < P
      · have HX := hid ((HE.out).trans (if_pos ⟨hp0, hp1⟩))
        go_enter Try.func66, Try.ntmps66
        go_wp2_with fail
        refine HC.out.mono ?_
        rintro e w1 ⟨q1, rfl⟩
        have hS := HS0.out.keep q1
        have a0 := hS.1
        have HS := hid hS
        clear hS q1
        go_wp2
        go_ret
        exact ⟨HS.out.below, ret_int (by rw [HX.out])⟩
      · have HX := hid ((HE.out).trans (if_neg (fun h => hp1 h.2)))
        go_enter Try.func66, Try.ntmps66
        go_wp2_with fail
        refine HC.out.mono ?_
        rintro e w1 ⟨q1, rfl⟩
        have hS := HS0.out.keep q1
        have a0 := hS.1
        have HS := hid hS
        clear hS q1
        go_wp2
        go_ret
        exact ⟨HS.out.below, ret_int (by rw [HX.out])⟩
    · have HX := hid ((HE.out).trans (if_neg (fun h => hp0 h.1)))
      go_enter Try.func66, Try.ntmps66
      go_wp2_with fail
      refine HC.out.mono ?_
      rintro e w1 ⟨q1, rfl⟩
      have hS := HS0.out.keep q1
      have a0 := hS.1
      have HS := hid hS
      clear hS q1
      go_wp2
      go_ret
      exact ⟨HS.out.below, ret_int (by rw [HX.out])⟩
  · have HX := hid ((HE.out).trans (if_neg h0))
    have h0' : (checkIt P its rls item != 0) = true := by simp [h0]
    clear h0
    generalize checkIt P its rls item = x at *
    go_enter Try.func66, Try.ntmps66
    go_wp2_with fail
    refine HC.out.mono ?_
    rintro e w1 ⟨q1, rfl⟩
    have HS := hid (HS0.out.keep q1)
    go_wp2
    go_ret
    exact ⟨HS.out.below, ret_int (by rw [HX.out])⟩

set_option maxRecDepth 100000 in
set_option maxHeartbeats 4000000 in
theorem rcheckProof_any (P : Int) (ia : Option Addr) (its : List ItemL) (ic : Nat) (ra : Option Addr) (rls : List RuleL) (rc : Nat) (item prop : Int) (a : Option Addr) (l : List StepL) (cap : Nat) (w : World) (h : BookAt w P ia its ra rls) (hs : StepsAt w a l) :
  Calls Try.prog 29 #[.agg #[.int .i64 P, .slice ia its.length ic, .slice ra rls.length rc], .int .i64 item, .int .i64 prop, .slice a l.length cap] w (IntR w (proofE P its rls item prop l)) := by
  have S0 := ValS.made w P (.slice ia its.length ic) (.slice ra rls.length rc)
  have HC := hid (asked_any P ia its ic ra rls rc item prop _ (h.below S0.below))
  have HS0 := hid S0
  have hlen := hs.len
  clear S0
  by_cases h0 : propE P its rls item prop = 0
  · obtain ⟨hv, ⟨hi0, hi1⟩, hp0, hp1⟩ := propE_ok h0
    have HE := hid (show proofE P its rls item prop l = if 40 < l.length then 4 else if stepsB its rls (contL its item.toNat) 0 l = false then 8 else if lastP l = prop then 0 else 8 by unfold proofE; rw [if_neg (by simp [h0])])
    rw [h0] at HC
    obtain ⟨n, rfl⟩ := Int.eq_ofNat_of_zero_le hi0
    obtain ⟨Q, rfl⟩ := Int.eq_ofNat_of_zero_le (show 0 ≤ P by omega)
    rw [Int.toNat_natCast] at HE
    clear h0 hi0
    have hn : n < its.length := by omega
    have hQ : Q ≤ 10 := by have := (validB_ok hv).2.1; omega
    have HMk := make_bools Q (by omega)
    have HR := hid (fun (k : Nat) (ka : Option Addr) (M kc : Nat) (w' : World) (hb : Below w.heap.size w w') (hk : BoolsAt w' ka Q M) => right_any Q ia its ic ra rls rc n (l[k]?.getD (0, 0, 0)) ka M kc w' (h.below hb) hv hn hk)
    have HOk := hid (fun (k : Nat) (hk : stepsB its rls (contL its n) 0 (l.take k) = true) => stepsB_ok hv _ _ hk)
    have HSt := hid (fun (w' : World) (hb : Below w.heap.size w w') => hs.below hb)
    generalize contL its n = C at *
    clear hv hn h hs hp0 hp1
    by_cases h1 : 40 < l.length
    · have HX := hid ((HE.out).trans (if_pos h1))
      go_enter Try.func29, Try.ntmps29
      go_wp2_with fail
      refine HC.out.mono ?_
      rintro e w1 ⟨q1, rfl⟩
      have HS1 := hid (HS0.out.keep q1)
      go_wp2
      go_ret
      exact ⟨HS1.out.below, by rw [HX.out]; rfl⟩
    · have HX := hid ((HE.out).trans (if_neg h1))
      clear HE
      go_enter Try.func29, Try.ntmps29
      go_wp2_with fail
      refine HC.out.mono ?_
      rintro e w1 ⟨q1, rfl⟩
      have HS1 := hid (HS0.out.keep q1)
      have a0 := HS1.out.1
      have hz1 := HS1.out.size
      have HO0 := hid (own_made w1 Q w1.heap.size (by omega) (Nat.le_refl _))
      have HS2 := hid (HS1.out.keep ((Below.refl _ _).alloc (Nat.le_refl _) (.cells (bcells 0 Q).toArray 4)))
      clear q1 HC HS0 HS1
      go_wp2
      go_loopw [11, 12] (fun la i wr => ∃ k : Nat, k ≤ l.length ∧ i = .int .i64 k ∧ la = .int .i64 (lastP (l.take k)) ∧ Hid (stepsB its rls C 0 (l.take k) = true) ∧ OwnB wr w1.heap.size w1.heap.size Q (propsL (l.take k)) Q ∧ Hid (ValS w (Q : Int) (.slice ia its.length ic) (.slice ra rls.length rc) wr)) (fun _ i _ => l.length - (intOf i).toNat)
      case atStart => exact ⟨0, Nat.zero_le _, rfl, rfl, rfl, HO0.out, HS2⟩
      case round =>
        clear HS2 HO0 a0
        obtain ⟨k, hk, rfl, rfl, HT, hown, HS⟩ := hrel
        by_cases hlt : k < l.length
        · rcases (HSt.out _ HS.out.below).at_ with e | ⟨b, off, rfl, hcl⟩
          · rw [e] at hlt; simp at hlt
          obtain ⟨c0, c1, c2⟩ := hcl k hlt
          have HRk := hid (fun (w' : World) (hb : Below w.heap.size w w') (hk : BoolsAt w' _ Q _) => HR.out k (some ⟨w1.heap.size, 0, none⟩) (propsL (l.take k)) Q w' hb hk)
          have HSu := hid (stepsB_succ its rls C l k hlt)
          have HPr := hid (propsL_take l k hlt)
          have HLp := hid (lastP_take l k hlt)
          have HOk1 := hid (fun (hh : stepsB its rls C 0 (l.take (k + 1)) = true) => HOk.out (k + 1) hh (l[k]?.getD (0, 0, 0)) (mem_take l _ k hlt))
          have a0 := HS.out.1
          have a1 := HS.out.2.1
          have a2 := HS.out.2.2.1
          clear hcl
          generalize l[k]?.getD (0, 0, 0) = s at *
          obtain ⟨p, f, q⟩ := s
          dsimp only at c0 c1 c2 HRk HPr HOk1 HLp
          generalize lastP (l.take k) = la at *
          generalize hM : propsL (l.take k) = M at *
          clear hM
          generalize stepB its rls C M (p, f, q) = bs at *
          have hk0 : (0 : Int) ≤ (k : Int) := by omega
          have hk1 : (k : Int) < (l.length : Int) := by omega
          have HKp := hid (fun w' (hb : Below wr.heap.size wr w') => (show w'.cell? ⟨w.heap.size, 0, none⟩ = some (.int .i64 (Q : Int)) ∧ w'.cell? ⟨w.heap.size, 1, none⟩ = some (.slice ia its.length ic) ∧ w'.cell? ⟨w.heap.size, 2, none⟩ = some (.slice ra rls.length rc) ∧ w'.cell? ⟨b, off + k * 3, none⟩ = some (.int .i64 p) ∧ w'.cell? ⟨b, off + k * 3 + 1, none⟩ = some (.int .i64 f) ∧ w'.cell? ⟨b, off + k * 3 + 2, none⟩ = some (.int .i64 q) ∧ Below wr.heap.size wr w' from
            ⟨(hb.cell (cell_lt a0)).trans a0, (hb.cell (cell_lt a1)).trans a1, (hb.cell (cell_lt a2)).trans a2, (hb.cell (cell_lt c0)).trans c0, (hb.cell (cell_lt c1)).trans c1, (hb.cell (cell_lt c2)).trans c2, hb⟩))
          have HOw := hid hown
          have HW := hid HS.out.below
          have HT2 := hid HT.out
          have HVs := hid (fun w' (hb : Below wr.heap.size wr w') => HS.out.keep hb)
          have hr0 : Below wr.heap.size wr wr := Below.refl _ _
          clear HS HT hown
          cases bs with
          | true =>
            have HST := hid (show stepsB its rls C 0 (l.take (k + 1)) = true by rw [HSu.out, HT2.out]; rfl)
            obtain ⟨hp0, hp1⟩ := HOk1.out HST.out
            obtain ⟨m, rfl⟩ := Int.eq_ofNat_of_zero_le hp0
            have hmn : m < Q := by omega
            rw [Int.toNat_natCast] at HPr
            go_wp2
            go_region_held3 (fun w' => w'.cell? ⟨w.heap.size, 0, none⟩ = some (.int .i64 (Q : Int)) ∧ w'.cell? ⟨w.heap.size, 1, none⟩ = some (.slice ia its.length ic) ∧ w'.cell? ⟨w.heap.size, 2, none⟩ = some (.slice ra rls.length rc) ∧ w'.cell? ⟨b, off + k * 3, none⟩ = some (.int .i64 (m : Int)) ∧ w'.cell? ⟨b, off + k * 3 + 1, none⟩ = some (.int .i64 f) ∧ w'.cell? ⟨b, off + k * 3 + 2, none⟩ = some (.int .i64 q) ∧ Below wr.heap.size wr w')
              (first | exact HKp.out _ hr0.drew | exact HKp.out _ p4)
              ((go_at_call 67; refine (HRk.out _ (HW.out.trans (hr0.drew.mono HW.out.size)) ((HOw.out.at_ (by omega)).below hr0.drew)).mono ?_; rintro en w4 ⟨hb4, rfl⟩; have p4 : Below wr.heap.size wr w4 := hr0.drew.trans hb4))
            have hO4 : OwnB w4 w1.heap.size w1.heap.size Q M Q := HOw.out.below p4
            have d0 : w4.cell? ⟨w1.heap.size, m, none⟩ = some (.bool (M.testBit m)) := by
              unfold OwnB at hO4
              rw [hO4.cellAt _ (by omega), bcells_at M Q m hmn]
            have f0 : w4.frozen? ⟨w1.heap.size, m, none⟩ = false := by unfold OwnB at hO4; exact hO4.frozenAt m
            have HO4 := hid hO4
            have HV4 := hid (HVs.out w4 p4)
            have e0 := (HKp.out _ p4).2.2.2.1
            clear hO4
            go_wp2
            go_roundw
            case rel => exact ⟨k + 1, by omega, by go_num, by rw [HLp.out], HST, by rw [HPr.out]; exact HO4.out.set m, HV4.out.setCell _ _ hz1⟩
            case measure => simp [intOf]; omega
          | false =>
            have HF8 := hid (stepsB_stop (its := its) (rls := rls) (C := C) (l := l) (k := k + 1) (by rw [HSu.out, HT2.out]; rfl))
            go_wp2
            go_region_held3 (fun w' => w'.cell? ⟨w.heap.size, 0, none⟩ = some (.int .i64 (Q : Int)) ∧ w'.cell? ⟨w.heap.size, 1, none⟩ = some (.slice ia its.length ic) ∧ w'.cell? ⟨w.heap.size, 2, none⟩ = some (.slice ra rls.length rc) ∧ w'.cell? ⟨b, off + k * 3, none⟩ = some (.int .i64 p) ∧ w'.cell? ⟨b, off + k * 3 + 1, none⟩ = some (.int .i64 f) ∧ w'.cell? ⟨b, off + k * 3 + 2, none⟩ = some (.int .i64 q) ∧ Below wr.heap.size wr w')
              (first | exact HKp.out _ hr0.drew | exact HKp.out _ p4)
              ((go_at_call 67; refine (HRk.out _ (HW.out.trans (hr0.drew.mono HW.out.size)) ((HOw.out.at_ (by omega)).below hr0.drew)).mono ?_; rintro en w4 ⟨hb4, rfl⟩; have p4 : Below wr.heap.size wr w4 := hr0.drew.trans hb4))
            have HB := hid (HW.out.trans (p4.mono HW.out.size))
            go_wp2
            go_ret
            exact ⟨HB.out, by rw [HX.out, if_pos HF8.out]; rfl⟩
        · obtain rfl : k = l.length := by omega
          rw [List.take_length] at HT
          have HX2 := hid ((HX.out).trans (if_neg (by rw [HT.out]; simp)))
          have HB := hid HS.out.below
          rw [List.take_length]
          generalize lastP l = y at *
          by_cases hy : y = prop
          · have hy1 : (y != prop) = false := by simp [hy]
            have HX3 := hid ((HX2.out).trans (if_pos hy))
            clear hy
            go_wp2
            go_ret
            exact ⟨HB.out, by rw [HX3.out]; rfl⟩
          · have hy1 : (y != prop) = true := by simp [hy]
            have HX3 := hid ((HX2.out).trans (if_neg hy))
            clear hy
            go_wp2
            go_ret
            exact ⟨HB.out, by rw [HX3.out]; rfl⟩
  · have HX := hid (show proofE P its rls item prop l = propE P its rls item prop by unfold proofE; rw [if_pos h0])
    have h0' : (propE P its rls item prop != 0) = true := by simp [h0]
    clear h0 h hs
    generalize propE P its rls item prop = x at *
    go_enter Try.func29, Try.ntmps29
    go_wp2_with fail
    refine HC.out.mono ?_
    rintro e w1 ⟨q1, rfl⟩
    have HS1 := hid (HS0.out.keep q1)
    go_wp2
    go_ret
    exact ⟨HS1.out.below, by rw [HX.out]; rfl⟩
end Go.Proofs.Ytdgleicpcjfnoaa
