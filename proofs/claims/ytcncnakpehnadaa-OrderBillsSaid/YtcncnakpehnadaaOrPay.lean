/- What is paid: package order. -/
import Derived.Test.YtcncnakpehnadaaOrFree
import Derived.Test.YtcncnakpehnadaaOrI
import Derived.Test.YtcncnakpehnadaaOrR
import Derived.Test.YtcncnakpehnadaaOrPayM
set_option linter.unusedVariables false
namespace Go.Proofs.Ytcncnakpehnadaa
open Go.RowKit

set_option maxHeartbeats 2000000 in
theorem checkBill_any (a ra pa : Option Addr) (l : List Fct) (r : List Rgt) (p : List Int) (lc rc pc : Nat) (cut : Int) (b : Bool) (w : World) (hl : FactsAt w a l) (hr : RgtsAt w ra r) (hp : Ints w pa p) :
  Calls Try.prog 86 #[.slice a l.length lc, .slice ra r.length rc, .slice pa p.length pc, .int .i64 cut, .bool b] w (IntR w (payE l r p cut b)) := by
  have h1 := hl.len
  have h2 := hr.len
  have h3 := hp.len
  have HV := hid (validate_any a l lc w hl)
  have HR := hid (fun W (h : Below w.heap.size w W) => validateRights_any ra r rc W (hr.below h))
  have HP := hid (fun W (h : Below w.heap.size w W) => arePrices_any pa p pc W (hp.below h))
  have HE := hid (show payE l r p cut b = if billE l r p cut = 0 then (if b = true then 0 else 1) else billE l r p cut from rfl)
  have HB := hid (show billE l r p cut = if validE l = 0 then (if rightsE r = 0 then (if pricesB p = true ∧ inI cut 0 10000 = true then 0 else 1) else rightsE r) else validE l from rfl)
  clear hl hr hp
  by_cases hv : validE l = 0
  · have HB := hid ((HB.out).trans (if_pos hv))
    rw [hv] at HV
    clear hv
    by_cases hr0 : rightsE r = 0
    · have HB := hid ((HB.out).trans (if_pos hr0))
      rw [hr0] at HR
      clear hr0
      cases g1 : pricesB p with
      | false =>
        have HX := hid (show payE l r p cut b = 1 by rw [HE.out, HB.out, g1]; simp)
        go_enter Try.func86, Try.ntmps86
        go_wp2_with fail
        refine HV.out.mono ?_
        rintro e w1 ⟨q1, rfl⟩
        go_wp2_with fail
        refine (HR.out w1 q1).mono ?_
        rintro e w2 ⟨q2, rfl⟩
        have p2 := q1.trans (q2.mono q1.size)
        go_wp2_with fail
        refine (HP.out w2 p2).mono ?_
        rintro e w' ⟨rfl, rfl⟩
        rw [g1]
        go_wp2
        go_ret
        exact ⟨p2, ret_int (by rw [HX.out])⟩
      | true =>
        cases g2 : inI cut 0 10000 with
        | false =>
          have HX := hid (show payE l r p cut b = 1 by rw [HE.out, HB.out, g1, g2]; simp)
          go_enter Try.func86, Try.ntmps86
          go_wp2_with fail
          refine HV.out.mono ?_
          rintro e w1 ⟨q1, rfl⟩
          go_wp2_with fail
          refine (HR.out w1 q1).mono ?_
          rintro e w2 ⟨q2, rfl⟩
          have p2 := q1.trans (q2.mono q1.size)
          go_wp2_with fail
          refine (HP.out w2 p2).mono ?_
          rintro e w' ⟨rfl, rfl⟩
          rw [g1]
          go_wp2_with fail
          refine (isWithin_any _ _ _ _).mono ?_
          rintro e w' ⟨rfl, rfl⟩
          rw [g2]
          go_wp2
          go_ret
          exact ⟨p2, ret_int (by rw [HX.out])⟩
        | true =>
          have HX := hid (show payE l r p cut b = if b = true then 0 else 1 by rw [HE.out, HB.out, g1, g2]; simp)
          cases b
          all_goals
            go_enter Try.func86, Try.ntmps86
            go_wp2_with fail
            refine HV.out.mono ?_
            rintro e w1 ⟨q1, rfl⟩
            go_wp2_with fail
            refine (HR.out w1 q1).mono ?_
            rintro e w2 ⟨q2, rfl⟩
            have p2 := q1.trans (q2.mono q1.size)
            go_wp2_with fail
            refine (HP.out w2 p2).mono ?_
            rintro e w' ⟨rfl, rfl⟩
            rw [g1]
            go_wp2_with fail
            refine (isWithin_any _ _ _ _).mono ?_
            rintro e w' ⟨rfl, rfl⟩
            rw [g2]
            go_wp2
            go_ret
            exact ⟨p2, ret_int (by rw [HX.out]; rfl)⟩
    · have HB := hid ((HB.out).trans (if_neg hr0))
      have HX := hid (show payE l r p cut b = rightsE r by rw [HE.out, HB.out, if_neg hr0])
      have hr1 : (rightsE r != 0) = true := by simp [hr0]
      clear hr0
      generalize rightsE r = x at *
      go_enter Try.func86, Try.ntmps86
      go_wp2_with fail
      refine HV.out.mono ?_
      rintro e w1 ⟨q1, rfl⟩
      go_wp2_with fail
      refine (HR.out w1 q1).mono ?_
      rintro e w2 ⟨q2, rfl⟩
      have p2 := q1.trans (q2.mono q1.size)
      go_wp2
      go_ret
      exact ⟨p2, ret_int (by rw [HX.out])⟩
  · have HB := hid ((HB.out).trans (if_neg hv))
    have HX := hid (show payE l r p cut b = validE l by rw [HE.out, HB.out, if_neg hv])
    have hv1 : (validE l != 0) = true := by simp [hv]
    clear hv
    generalize validE l = x at *
    go_enter Try.func86, Try.ntmps86
    go_wp2_with fail
    refine HV.out.mono ?_
    rintro e w1 ⟨q1, rfl⟩
    go_wp2
    go_ret
    exact ⟨q1, ret_int (by rw [HX.out])⟩

set_option maxRecDepth 100000 in
set_option maxHeartbeats 4000000 in
theorem pay_any (a ra pa : Option Addr) (l : List Fct) (r : List Rgt) (p : List Int) (lc rc pc : Nat) (cut c f : Int) (D : Nat) (w : World) (hl : FactsAt w a l) (hcap : l.length ≤ lc) (hr : RgtsAt w ra r) (hp : Ints w pa p)
  (hE : billE l r p cut = 0) (f0 : 0 ≤ f) (f1 : f + (D : Int) ≤ 1000) :
  Calls Try.prog 87 #[.slice a l.length lc, .slice ra r.length rc, .slice pa p.length pc, .int .i64 cut, .int .i64 c, .int .i64 f, .int .i64 (f + (D : Int))] w (IntR w (paySum l r p cut c f D)) := by
  have h1 := hl.len
  have h2 := hr.len
  have h3 := hp.len
  obtain ⟨e1, e2, e3, e4⟩ := billE_ok hE
  obtain ⟨v1, v2, v3⟩ := validE_ok e1
  obtain ⟨u0, u1⟩ := inI_iff.1 e4
  have hp9 : p.length = 9 := by simp [pricesB] at e3; exact e3.2
  have HL := hid hl
  have HSo := hid v3
  have HRt := hid hr
  have HPr := hid (fun W (h : Below w.heap.size w W) m m0 m9 => priceOf_any pa p pc m W (hp.below h) hp9 m0 m9)
  have HMb := hid (fun d n (hn : n ≤ l.length) => mealK_bd v2 c d n hn)
  have HPb := hid (fun m m0 m9 => priceL_bd e3 m m0 m9)
  have HSb := hid (fun k => paySum_bd v2 e3 r cut c f k)
  have HF0 := hid (show ∀ d, freeL c d r = true → payOne l r p cut c d = 0 from fun d h => if_pos h)
  have HF1 := hid (show ∀ d, freeL c d r = false → payOne l r p cut c d = maxI (priceL p (mealK l c d (cutL (d * 1440 - cut) l))) (priceL p (mealK l c d l.length)) from fun d h => if_neg (by rw [h]; simp))
  have HSs := hid (show ∀ k, paySum l r p cut c f (k + 1) = paySum l r p cut c f k + payOne l r p cut c (f + (k : Int)) from fun k => rfl)
  have hrl := recTo_len l c l.length
  clear hl hr hp hE e1 e2 e3 e4 v2 v3 hp9
  go_enter Try.func87, Try.ntmps87
  go_wp2_with fail
  refine (recordOf_any a l l.length lc c w HL.out (Nat.le_refl _) (by omega)).mono ?_
  rintro e w1 ⟨q1, A, cc, rfl, hA⟩
  have HEnd := hid (fun W (h : Below w1.heap.size w1 W) d => by
    have := meal_any A _ cc d W (hA.below h)
    rw [mealR_rec] at this
    exact this)
  generalize (recTo l c l.length).length = rn at *
  have hs1 := q1.size
  have HQ1 := hid q1
  clear hA q1
  go_wp2
  go_loopw [16, 17] (fun o i wr => ∃ k : Nat, k ≤ D ∧ i = .int .i64 (f + (k : Int)) ∧ o = .int .i64 (paySum l r p cut c f k) ∧ Below w1.heap.size w1 wr) (fun _ i _ => (f + (D : Int) - intOf i).toNat)
  case atStart => exact ⟨0, Nat.zero_le _, by rw [Int.natCast_zero, Int.add_zero], rfl, Below.refl _ _⟩
  case round =>
    obtain ⟨k, hk, rfl, rfl, hB⟩ := hrel
    have pB := HQ1.out.trans (hB.mono hs1)
    by_cases hlt : k < D
    · have HSk := hid (HSs.out k)
      obtain ⟨s0, s1⟩ := HSb.out k
      generalize paySum l r p cut c f k = S at *
      cases hf : freeL c (f + (k : Int)) r with
      | true =>
        have HX := hid (HF0.out _ hf)
        go_wp2_with fail
        refine (isFree_any ra r rc c (f + (k : Int)) wr (HRt.out.below pB)).mono ?_
        rintro e w2 ⟨q2, rfl⟩
        rw [hf]
        go_wp2
        go_roundw
        case rel => exact ⟨k + 1, by omega, by go_num, by rw [HSk.out, HX.out]; go_num, hB.trans (q2.mono hB.size)⟩
        case measure => simp [intOf]; omega
      | false =>
        have HX := hid (HF1.out _ hf)
        have m1 := HMb.out (f + (k : Int)) (cutL ((f + (k : Int)) * 1440 - cut) l) (cutL_le _ _)
        have m2 := HMb.out (f + (k : Int)) l.length (Nat.le_refl _)
        have hcl := cutL_le ((f + (k : Int)) * 1440 - cut) l
        have HMr := hid (mealR_rec l c (f + (k : Int)) (cutL ((f + (k : Int)) * 1440 - cut) l))
        go_wp2_with fail
        refine (isFree_any ra r rc c (f + (k : Int)) wr (HRt.out.below pB)).mono ?_
        rintro e w2 ⟨q2, rfl⟩
        rw [hf]
        have p2 := pB.trans (q2.mono pB.size)
        have HW := hid (written_any a l lc ((f + (k : Int)) * 1440 - cut) w2 (HL.out.below p2) HSo.out hcap)
        go_wp2_with fail
        refine HW.out.mono ?_
        rintro e w3 ⟨q3, rfl⟩
        have p3 := p2.trans (q3.mono p2.size)
        have HR := hid (recordOf_any a l (cutL ((f + (k : Int)) * 1440 - cut) l) (cutL ((f + (k : Int)) * 1440 - cut) l) c w3 (HL.out.below p3) hcl (by omega))
        go_wp2_with fail
        refine HR.out.mono ?_
        rintro e w4 ⟨q4, B, cb, rfl, hB4⟩
        have p4 := p3.trans (q4.mono p3.size)
        have HM1 := hid (meal_any B _ cb (f + (k : Int)) w4 hB4)
        rw [HMr.out] at HM1
        have b1 := HPb.out _ m1.1 m1.2
        have b2 := HPb.out _ m2.1 m2.2
        have HE2 := hid (fun W h => HEnd.out W h (f + (k : Int)))
        generalize mealK l c (f + (k : Int)) (cutL ((f + (k : Int)) * 1440 - cut) l) = y1 at *
        generalize mealK l c (f + (k : Int)) l.length = y2 at *
        generalize recTo l c (cutL ((f + (k : Int)) * 1440 - cut) l) = rr at *
        clear HW HR hB4 HMr
        go_wp2_with fail
        refine HM1.out.mono ?_
        rintro e w5 ⟨q5, rfl⟩
        have p5 := p4.trans (q5.mono p4.size)
        go_wp2_with fail
        refine (HPr.out w5 p5 y1 m1.1 m1.2).mono ?_
        rintro e w' ⟨rfl, rfl⟩
        have hB5 : Below w1.heap.size w1 w5 := ((((hB.trans (q2.mono hB.size)).trans (q3.mono (by have := hB.size; have := q2.size; omega))).trans (q4.mono (by have := hB.size; have := q2.size; have := q3.size; omega))).trans (q5.mono (by have := hB.size; have := q2.size; have := q3.size; have := q4.size; omega)))
        go_wp2_with fail
        refine (HE2.out w5 hB5).mono ?_
        rintro e w6 ⟨q6, rfl⟩
        have p6 := p5.trans (q6.mono p5.size)
        go_wp2_with fail
        refine (HPr.out w6 p6 y2 m2.1 m2.2).mono ?_
        rintro e w' ⟨rfl, rfl⟩
        generalize priceL p y1 = z1 at *
        generalize priceL p y2 = z2 at *
        by_cases hz : z1 < z2
        · have HZ := hid (show maxI z1 z2 = z2 from if_pos hz)
          go_wp2
          go_roundw
          case rel => exact ⟨k + 1, by omega, by go_num, by rw [HSk.out, HX.out, HZ.out], hB5.trans (q6.mono hB5.size)⟩
          case measure => simp [intOf]; omega
        · have HZ := hid (show maxI z1 z2 = z1 from if_neg hz)
          have hz' : z2 ≤ z1 := by omega
          clear hz
          go_wp2
          go_roundw
          case rel => exact ⟨k + 1, by omega, by go_num, by rw [HSk.out, HX.out, HZ.out], hB5.trans (q6.mono hB5.size)⟩
          case measure => simp [intOf]; omega
    · obtain rfl : k = D := by omega
      go_wp2
      go_ret
      exact ⟨pB, rfl⟩
end Go.Proofs.Ytcncnakpehnadaa
