/- The law OrderCounts: the document's Count, and the law's walk. -/
import Derived.Test.YtcncnakpehnadaaOrCnt
set_option linter.unusedVariables false
namespace Go.Proofs.Ytcncnakpehnadaa
open Go.RowKit

theorem sumK_le (g : Nat → Nat) (h : ∀ j, g j ≤ 100) (k : Nat) : sumN g k ≤ k * 100 := by
  induction k with
  | zero => exact Nat.le_refl _
  | succ k ih => have := h k; show sumN g k + g k ≤ _; omega
theorem cntE_eq (l : List Fct) (f t m : Int) : cntE l f t m = if validE l = 0 then (if f < 0 then 1 else if t < f then 1 else if 1000 < t then 1 else if inI m 0 9 = true then 0 else 1) else validE l := by
  unfold cntE chkE
  by_cases h : validE l = 0
  · rw [if_pos h, if_pos h]
    by_cases h1 : f < 0
    · rw [if_pos h1, show strB f t = false by simp [strB]; omega]; rfl
    · rw [if_neg h1]
      by_cases h2 : t < f
      · rw [if_pos h2, show strB f t = false by simp [strB]; omega]; rfl
      · rw [if_neg h2]
        by_cases h3 : 1000 < t
        · rw [if_pos h3, show strB f t = false by simp [strB]; omega]; rfl
        · rw [if_neg h3, show strB f t = true by simp [strB]; omega, Bool.true_and]
  · rw [if_neg h, if_neg h]

set_option maxRecDepth 100000 in
set_option maxHeartbeats 4000000 in
theorem rCount_any (a : Option Addr) (l : List Fct) (cap : Nat) (at_ f t m : Int) (w : World) (hl : FactsAt w a l) :
  Calls Try.prog 35 #[.slice a l.length cap, .int .i64 at_, .int .i64 f, .int .i64 t, .int .i64 m] w (KnownR w (countL l at_ f t m)) := by
  have hlen := hl.len
  have HV := hid (rvalidate_any a l cap w hl)
  have HE := hid (cntE_eq l f t m)
  by_cases hv : validE l = 0
  · obtain ⟨h3, h4, h5⟩ := validE_ok hv
    have HE := hid ((HE.out).trans (if_pos hv))
    rw [hv] at HV
    have HL := hid hl
    have HSo := hid h5
    clear hv h4 h5 hl
    by_cases h1 : f < 0
    · have HM := hid (show countL l at_ f t m = (0, 1) by unfold countL; rw [HE.out, if_pos h1]; rfl)
      go_enter Try.func35, Try.ntmps35
      go_wp2_with fail
      refine HV.out.mono ?_
      rintro e w1 ⟨q1, rfl⟩
      go_wp2
      go_ret2
      exact ⟨q1, by rw [HM.out]; rfl⟩
    · have HE := hid ((HE.out).trans (if_neg h1))
      have h1' : 0 ≤ f := by omega
      clear h1
      by_cases h2 : t < f
      · have HM := hid (show countL l at_ f t m = (0, 1) by unfold countL; rw [HE.out, if_pos h2]; rfl)
        go_enter Try.func35, Try.ntmps35
        go_wp2_with fail
        refine HV.out.mono ?_
        rintro e w1 ⟨q1, rfl⟩
        go_wp2
        go_ret2
        exact ⟨q1, by rw [HM.out]; rfl⟩
      · have HE := hid ((HE.out).trans (if_neg h2))
        have h2' : f ≤ t := by omega
        clear h2
        by_cases hb : 1000 < t
        · have HM := hid (show countL l at_ f t m = (0, 1) by unfold countL; rw [HE.out, if_pos hb]; rfl)
          go_enter Try.func35, Try.ntmps35
          go_wp2_with fail
          refine HV.out.mono ?_
          rintro e w1 ⟨q1, rfl⟩
          go_wp2
          go_ret2
          exact ⟨q1, by rw [HM.out]; rfl⟩
        · have HE := hid ((HE.out).trans (if_neg hb))
          have h3' : t ≤ 1000 := by omega
          clear hb
          cases g : inI m 0 9 with
          | false =>
            rw [g] at HE
            have HM := hid (show countL l at_ f t m = (0, 1) by unfold countL; rw [HE.out]; rfl)
            go_enter Try.func35, Try.ntmps35
            go_wp2_with fail
            refine HV.out.mono ?_
            rintro e w1 ⟨q1, rfl⟩
            go_wp2_with fail
            refine (rwithin_any _ _ _ _).mono ?_
            rintro e w' ⟨rfl, rfl⟩
            rw [g]
            go_wp2
            go_ret2
            exact ⟨q1, by rw [HM.out]; rfl⟩
          | true =>
            rw [g] at HE
            have HM := hid (show countL l at_ f t m = ((cntN l at_ f t m : Int), 0) from if_pos ((HE.out).trans (if_pos rfl)))
            obtain ⟨D, hD⟩ : ∃ D : Nat, (t - f).toNat = D := ⟨_, rfl⟩
            have HNe := hid ((cnt_days l at_ f t m).trans (by rw [hD]))
            have hD1 : t = f + (D : Int) := by omega
            clear hD
            have HLe := hid (fun k => sumK_le (fun j => (kidsTo (kidG l at_ (f + (j : Int))) m 100).length) (fun j => kidsTo_len _ _ _) k)
            have HLk := hid (fun (j : Nat) => kidsTo_len (kidG l at_ (f + (j : Int))) m 100)
            have HVb := hid HV.out
            clear HV HE
            subst hD1
            go_enter Try.func35, Try.ntmps35
            go_wp2_with fail
            refine HVb.out.mono ?_
            rintro e w1 ⟨q1, rfl⟩
            go_wp2_with fail
            refine (rwithin_any _ _ _ _).mono ?_
            rintro e w' ⟨rfl, rfl⟩
            rw [g]
            go_wp2
            go_loopw [13, 14] (fun o i wr => ∃ j : Nat, j ≤ D ∧ i = .int .i64 (f + (j : Int)) ∧ o = .int .i64 ((sumN (fun j => (kidsTo (kidG l at_ (f + (j : Int))) m 100).length) j : Nat) : Int) ∧ Below w.heap.size w wr) (fun _ i _ => (f + (D : Int) - intOf i).toNat)
            case atStart => exact ⟨0, Nat.zero_le _, by rw [Int.natCast_zero, Int.add_zero], rfl, q1⟩
            case round =>
              obtain ⟨j, hj, rfl, rfl, hB⟩ := hrel
              by_cases hjl : j < D
              · have HK := hid (rchildren_any a l cap at_ (f + (j : Int)) m wr (HL.out.below hB) HSo.out)
                have HS := hid (show sumN (fun j => (kidsTo (kidG l at_ (f + (j : Int))) m 100).length) (j + 1) = sumN (fun j => (kidsTo (kidG l at_ (f + (j : Int))) m 100).length) j + (kidsTo (kidG l at_ (f + (j : Int))) m 100).length from rfl)
                have hs1 := HLe.out j
                have hs2 := HLk.out j
                generalize sumN (fun j => (kidsTo (kidG l at_ (f + (j : Int))) m 100).length) j = S at *
                generalize kidsTo (kidG l at_ (f + (j : Int))) m 100 = ys at *
                go_wp2_with fail
                refine HK.out.mono ?_
                rintro e w4 ⟨q4, A4, c4, rfl, hA4⟩
                clear hA4 HK
                go_wp2
                go_roundw
                case rel => exact ⟨j + 1, by omega, by go_num, by rw [HS.out]; go_num, hB.trans (q4.mono hB.size)⟩
                case measure => simp [intOf]; omega
              · obtain rfl : j = D := by omega
                go_wp2
                go_ret2
                exact ⟨hB, by rw [HM.out, HNe.out]; rfl⟩
  · have HE := hid ((HE.out).trans (if_neg hv))
    have HM := hid (show countL l at_ f t m = (0, validE l) by unfold countL; rw [HE.out, if_neg hv])
    have h0' : (validE l != 0) = true := by simp [hv]
    clear hv hl HE
    generalize validE l = x at *
    go_enter Try.func35, Try.ntmps35
    go_wp2_with fail
    refine HV.out.mono ?_
    rintro e w1 ⟨q1, rfl⟩
    go_wp2
    go_ret2
    exact ⟨q1, by rw [HM.out]; rfl⟩

/-- A box with a minute, two days and a meal. -/
def StrAt (w : World) (b : Nat) (x y z u : Int) : Prop := w.cell? ⟨b, 0, none⟩ = some (.int .i64 x) ∧ w.cell? ⟨b, 1, none⟩ = some (.int .i64 y) ∧ w.cell? ⟨b, 2, none⟩ = some (.int .i64 z) ∧ w.cell? ⟨b, 3, none⟩ = some (.int .i64 u)
theorem StrAt.below {w w' : World} {b : Nat} {x y z u : Int} (h : StrAt w b x y z u) (hb : Below w.heap.size w w') : StrAt w' b x y z u := by
  obtain ⟨h0, h1, h2, h3⟩ := h
  exact ⟨by rw [hb.cell (cell_lt h0)]; exact h0, by rw [hb.cell (cell_lt h1)]; exact h1, by rw [hb.cell (cell_lt h2)]; exact h2, by rw [hb.cell (cell_lt h3)]; exact h3⟩
theorem strAt_new (w : World) (x y z u : Int) (t : TypeId) : StrAt (w.alloc (.cells #[.int .i64 x, .int .i64 y, .int .i64 z, .int .i64 u] t)) w.heap.size x y z u := by
  refine ⟨?_, ?_, ?_, ?_⟩ <;> go_simp

/-- Following stretches add up, where both are stretches. -/
theorem count_adds (l : List Fct) (at_ f b t m : Int) (h1 : (countL l at_ f b m).2 = 0) (h2 : (countL l at_ b t m).2 = 0) : (countL l at_ f t m).2 = 0 ∧ (countL l at_ f b m).1 + (countL l at_ b t m).1 = (countL l at_ f t m).1 := by
  have e1 : cntE l f b m = 0 := by
    by_cases h : cntE l f b m = 0
    · exact h
    · rw [show countL l at_ f b m = (0, cntE l f b m) from if_neg h] at h1; exact h1
  have e2 : cntE l b t m = 0 := by
    by_cases h : cntE l b t m = 0
    · exact h
    · rw [show countL l at_ b t m = (0, cntE l b t m) from if_neg h] at h2; exact h2
  obtain ⟨_, _, _, _, g, a0, a1, a2⟩ := cntE_ok e1
  obtain ⟨_, _, _, _, _, b0, b1, b2⟩ := cntE_ok e2
  have e3 : cntE l f t m = 0 := by
    have hv := (chkE_ok e1).1
    unfold cntE chkE
    rw [if_pos hv, g, strB_iff.2 ⟨a0, by omega, b2⟩]
    rfl
  rw [show countL l at_ f b m = ((cntN l at_ f b m : Int), 0) from if_pos e1, show countL l at_ b t m = ((cntN l at_ b t m : Int), 0) from if_pos e2, show countL l at_ f t m = ((cntN l at_ f t m : Int), 0) from if_pos e3]
  refine ⟨rfl, ?_⟩
  have := cnt_add l at_ f b t m a1 b1
  show (cntN l at_ f b m : Int) + (cntN l at_ b t m : Int) = (cntN l at_ f t m : Int)
  omega
theorem count_bd (l : List Fct) (at_ f t m : Int) : 0 ≤ (countL l at_ f t m).1 ∧ (countL l at_ f t m).1 ≤ 100000 := by
  unfold countL
  split
  · rename_i h
    obtain ⟨_, _, _, _, _, b0, b1, b2⟩ := cntE_ok h
    have := sumK_le (fun j => (kidsTo (kidG l at_ (f + (j : Int))) m 100).length) (fun j => kidsTo_len _ _ _) (t - f).toNat
    rw [← cnt_days] at this
    show 0 ≤ (cntN l at_ f t m : Int) ∧ (cntN l at_ f t m : Int) ≤ 100000
    omega
  · exact ⟨Int.le_refl _, by show (0 : Int) ≤ 100000; omega⟩
end Go.Proofs.Ytcncnakpehnadaa
