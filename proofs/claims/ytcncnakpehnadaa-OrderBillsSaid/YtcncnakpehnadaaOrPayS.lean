/- Pay and Bill of the document. -/
import Derived.Test.YtcncnakpehnadaaOrPayR
set_option linter.unusedVariables false
namespace Go.Proofs.Ytcncnakpehnadaa
open Go.RowKit

set_option maxHeartbeats 2000000 in
theorem rPay_any (a ra pa : Option Addr) (l : List Fct) (r : List Rgt) (p : List Int) (lc rc pc : Nat) (cut c d : Int) (w : World) (hl : FactsAt w a l) (hr : RgtsAt w ra r) (hp : Ints w pa p) :
  Calls Try.prog 54 #[.slice a l.length lc, .slice ra r.length rc, .slice pa p.length pc, .int .i64 cut, .int .i64 c, .int .i64 d] w (KnownR w (payL l r p cut c d)) := by
  have h1 := hl.len
  have h2 := hr.len
  have h3 := hp.len
  have HV := hid (rbilled_any a ra pa l r p lc rc pc cut w hl hr hp)
  have HP := hid (fun W (h : Below w.heap.size w W) (hE : billE l r p cut = 0) (d0 : 0 ≤ d) (d1 : d ≤ 999) => rpay_any a ra pa l r p lc rc pc cut c d W (hl.below h) (hr.below h) (hp.below h) hE d0 d1)
  have HE := hid (show payE l r p cut (inI c 0 99 && inI d 0 999) = if billE l r p cut = 0 then (if (inI c 0 99 && inI d 0 999) = true then 0 else 1) else billE l r p cut from rfl)
  have HM := hid (show payL l r p cut c d = if payE l r p cut (inI c 0 99 && inI d 0 999) = 0 then (paySum l r p cut c d 1, 0) else (0, payE l r p cut (inI c 0 99 && inI d 0 999)) from rfl)
  clear hl hr hp
  by_cases h0 : billE l r p cut = 0
  · have HE := hid ((HE.out).trans (if_pos h0))
    have HVb := hid (show Calls Try.prog 88 #[.slice a l.length lc, .slice ra r.length rc, .slice pa p.length pc, .int .i64 cut] w (IntR w 0) by have := HV.out; rw [h0] at this; exact this)
    cases g1 : inI c 0 99 with
    | false =>
      have HX := hid (show payL l r p cut c d = (0, 1) by rw [HM.out, HE.out, g1]; rfl)
      clear h0 HV HP
      go_enter Try.func54, Try.ntmps54
      go_wp2_with fail
      refine HVb.out.mono ?_
      rintro e w1 ⟨q1, rfl⟩
      go_wp2_with fail
      refine (rwithin_any _ _ _ _).mono ?_
      rintro e w' ⟨rfl, rfl⟩
      rw [g1]
      go_wp2
      go_ret2
      exact ⟨q1, by rw [HX.out]; rfl⟩
    | true =>
      cases g2 : inI d 0 999 with
      | false =>
        have HX := hid (show payL l r p cut c d = (0, 1) by rw [HM.out, HE.out, g1, g2]; rfl)
        clear h0 HV HP
        go_enter Try.func54, Try.ntmps54
        go_wp2_with fail
        refine HVb.out.mono ?_
        rintro e w1 ⟨q1, rfl⟩
        go_wp2_with fail
        refine (rwithin_any _ _ _ _).mono ?_
        rintro e w' ⟨rfl, rfl⟩
        rw [g1]
        go_wp2_with fail
        refine (rwithin_any _ _ _ _).mono ?_
        rintro e w' ⟨rfl, rfl⟩
        rw [g2]
        go_wp2
        go_ret2
        exact ⟨q1, by rw [HX.out]; rfl⟩
      | true =>
        have HX := hid (show payL l r p cut c d = (payOne l r p cut c d, 0) by
          rw [HM.out, HE.out, g1, g2]
          have e1 : paySum l r p cut c d 1 = payOne l r p cut c d := by
            show (0 : Int) + payOne l r p cut c (d + ((0 : Nat) : Int)) = _
            rw [Int.zero_add, Int.natCast_zero, Int.add_zero]
          rw [e1]; rfl)
        have hd := inI_iff.1 g2
        have HP2 := hid (fun W h => HP.out W h h0 hd.1 hd.2)
        clear h0 HV HP
        go_enter Try.func54, Try.ntmps54
        go_wp2_with fail
        refine HVb.out.mono ?_
        rintro e w1 ⟨q1, rfl⟩
        go_wp2_with fail
        refine (rwithin_any _ _ _ _).mono ?_
        rintro e w' ⟨rfl, rfl⟩
        rw [g1]
        go_wp2_with fail
        refine (rwithin_any _ _ _ _).mono ?_
        rintro e w' ⟨rfl, rfl⟩
        rw [g2]
        go_wp2_with fail
        refine (HP2.out w1 q1).mono ?_
        rintro e w' ⟨rfl, rfl⟩
        go_wp2
        go_ret2
        exact ⟨q1, by rw [HX.out]; rfl⟩
  · have HX := hid (show payL l r p cut c d = (0, billE l r p cut) by rw [HM.out, HE.out, if_neg h0, if_neg h0])
    have h0' : (billE l r p cut != 0) = true := by simp [h0]
    clear h0 HP HE HM
    generalize billE l r p cut = x at *
    go_enter Try.func54, Try.ntmps54
    go_wp2_with fail
    refine HV.out.mono ?_
    rintro e w1 ⟨q1, rfl⟩
    go_wp2
    go_ret2
    exact ⟨q1, by rw [HX.out]; rfl⟩

set_option maxRecDepth 100000 in
set_option maxHeartbeats 4000000 in
theorem rBill_any (a ra pa : Option Addr) (l : List Fct) (r : List Rgt) (p : List Int) (lc rc pc : Nat) (cut c f t : Int) (w : World) (hl : FactsAt w a l) (hr : RgtsAt w ra r) (hp : Ints w pa p) :
  Calls Try.prog 56 #[.slice a l.length lc, .slice ra r.length rc, .slice pa p.length pc, .int .i64 cut, .int .i64 c, .int .i64 f, .int .i64 t] w (KnownR w (billL l r p cut c f t)) := by
  have h1 := hl.len
  have h2 := hr.len
  have h3 := hp.len
  have HV := hid (rbilled_any a ra pa l r p lc rc pc cut w hl hr hp)
  have HP := hid (fun W (h : Below w.heap.size w W) (hE : billE l r p cut = 0) d (d0 : 0 ≤ d) (d1 : d ≤ 999) => rpay_any a ra pa l r p lc rc pc cut c d W (hl.below h) (hr.below h) (hp.below h) hE d0 d1)
  have HE := hid (show payE l r p cut (inI c 0 99 && strB f t) = if billE l r p cut = 0 then (if (inI c 0 99 && strB f t) = true then 0 else 1) else billE l r p cut from rfl)
  have HM := hid (show billL l r p cut c f t = if payE l r p cut (inI c 0 99 && strB f t) = 0 then (paySum l r p cut c f (t - f).toNat, 0) else (0, payE l r p cut (inI c 0 99 && strB f t)) from rfl)
  clear hl hr hp
  by_cases h0 : billE l r p cut = 0
  · have HE := hid ((HE.out).trans (if_pos h0))
    have HVb := hid (show Calls Try.prog 88 #[.slice a l.length lc, .slice ra r.length rc, .slice pa p.length pc, .int .i64 cut] w (IntR w 0) by have := HV.out; rw [h0] at this; exact this)
    clear HV
    cases g1 : inI c 0 99 with
    | false =>
      have HX := hid (show billL l r p cut c f t = (0, 1) by rw [HM.out, HE.out, g1]; rfl)
      clear h0 HP
      go_enter Try.func56, Try.ntmps56
      go_wp2_with fail
      refine HVb.out.mono ?_
      rintro e w1 ⟨q1, rfl⟩
      go_wp2_with fail
      refine (rwithin_any _ _ _ _).mono ?_
      rintro e w' ⟨rfl, rfl⟩
      rw [g1]
      go_wp2
      go_ret2
      exact ⟨q1, by rw [HX.out]; rfl⟩
    | true =>
      by_cases hs : strB f t = true
      · obtain ⟨f0, f1, f2⟩ := strB_iff.1 hs
        obtain ⟨D, hD⟩ : ∃ D : Nat, (t - f).toNat = D := ⟨_, rfl⟩
        have HX := hid (show billL l r p cut c f t = (paySum l r p cut c f D, 0) by rw [HM.out, HE.out, g1, hs, hD]; rfl)
        have HSs := hid (show ∀ k, paySum l r p cut c f (k + 1) = paySum l r p cut c f k + payOne l r p cut c (f + (k : Int)) from fun k => rfl)
        obtain ⟨e1, e2, e3, e4⟩ := billE_ok h0
        have HSb := hid (fun k => paySum_bd (validE_ok e1).2.1 e3 r cut c f k)
        have HOb := hid (fun d => payOne_bd (validE_ok e1).2.1 e3 r cut c d)
        have HP2 := hid (fun W h => HP.out W h h0)
        have hD1 : t = f + (D : Int) := by omega
        clear h0 HP HE HM hs hD e1 e2 e3 e4
        subst hD1
        go_enter Try.func56, Try.ntmps56
        go_wp2_with fail
        refine HVb.out.mono ?_
        rintro e w1 ⟨q1, rfl⟩
        go_wp2_with fail
        refine (rwithin_any _ _ _ _).mono ?_
        rintro e w' ⟨rfl, rfl⟩
        rw [g1]
        go_wp2
        go_loop [17, 18] (fun o i => ∃ k : Nat, k ≤ D ∧ i = .int .i64 (f + (k : Int)) ∧ o = .int .i64 (paySum l r p cut c f k)) (fun _ i => (f + (D : Int) - intOf i).toNat)
        case atStart => exact ⟨0, Nat.zero_le _, by rw [Int.natCast_zero, Int.add_zero], rfl⟩
        case round =>
          obtain ⟨k, hk, rfl, rfl⟩ := hrel
          by_cases hlt : k < D
          · have HSk := hid (HSs.out k)
            obtain ⟨s0, s1⟩ := HSb.out k
            obtain ⟨o0, o1⟩ := HOb.out (f + (k : Int))
            have HPk := hid (HP2.out w1 q1 (f + (k : Int)) (by omega) (by omega))
            generalize paySum l r p cut c f k = S at *
            generalize payOne l r p cut c (f + (k : Int)) = y at *
            go_wp2_with fail
            refine HPk.out.mono ?_
            rintro e w' ⟨rfl, rfl⟩
            go_wp2
            go_round
            case rel => exact ⟨k + 1, by omega, by go_num, by rw [HSk.out]⟩
            case measure => simp [intOf]; omega
          · obtain rfl : k = D := by omega
            go_wp2
            go_ret2
            exact ⟨q1, by rw [HX.out]; rfl⟩
      · have hs' : strB f t = false := by simpa using hs
        have HX := hid (show billL l r p cut c f t = (0, 1) by rw [HM.out, HE.out, g1, hs']; rfl)
        clear h0 HP HE HM
        by_cases a1 : f < 0
        · clear hs hs'
          go_enter Try.func56, Try.ntmps56
          go_wp2_with fail
          refine HVb.out.mono ?_
          rintro e w1 ⟨q1, rfl⟩
          go_wp2_with fail
          refine (rwithin_any _ _ _ _).mono ?_
          rintro e w' ⟨rfl, rfl⟩
          rw [g1]
          go_wp2
          go_ret2
          exact ⟨q1, by rw [HX.out]; rfl⟩
        · have a1' : 0 ≤ f := by omega
          by_cases a2 : t < f
          · clear hs hs' a1
            go_enter Try.func56, Try.ntmps56
            go_wp2_with fail
            refine HVb.out.mono ?_
            rintro e w1 ⟨q1, rfl⟩
            go_wp2_with fail
            refine (rwithin_any _ _ _ _).mono ?_
            rintro e w' ⟨rfl, rfl⟩
            rw [g1]
            go_wp2
            go_ret2
            exact ⟨q1, by rw [HX.out]; rfl⟩
          · have a2' : f ≤ t := by omega
            have a3 : 1000 < t := by
              have := mt strB_iff.2 hs
              omega
            clear hs hs' a1 a2
            go_enter Try.func56, Try.ntmps56
            go_wp2_with fail
            refine HVb.out.mono ?_
            rintro e w1 ⟨q1, rfl⟩
            go_wp2_with fail
            refine (rwithin_any _ _ _ _).mono ?_
            rintro e w' ⟨rfl, rfl⟩
            rw [g1]
            go_wp2
            go_ret2
            exact ⟨q1, by rw [HX.out]; rfl⟩
  · have HX := hid (show billL l r p cut c f t = (0, billE l r p cut) by rw [HM.out, HE.out, if_neg h0, if_neg h0])
    have h0' : (billE l r p cut != 0) = true := by simp [h0]
    clear h0 HP HE HM
    generalize billE l r p cut = x at *
    go_enter Try.func56, Try.ntmps56
    go_wp2_with fail
    refine HV.out.mono ?_
    rintro e w1 ⟨q1, rfl⟩
    go_wp2
    go_ret2
    exact ⟨q1, by rw [HX.out]; rfl⟩
end Go.Proofs.Ytcncnakpehnadaa
