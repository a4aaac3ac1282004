/- What is paid: Pay and Bill of package order, and the document's own. -/
import Derived.Test.YtcncnakpehnadaaOrPay
import Derived.Test.YtcncnakpehnadaaOrN
set_option linter.unusedVariables false
namespace Go.Proofs.Ytcncnakpehnadaa
open Go.RowKit

def payL (l : List Fct) (r : List Rgt) (p : List Int) (cut c d : Int) : Int × Int := if payE l r p cut (inI c 0 99 && inI d 0 999) = 0 then (paySum l r p cut c d 1, 0) else (0, payE l r p cut (inI c 0 99 && inI d 0 999))
def billL (l : List Fct) (r : List Rgt) (p : List Int) (cut c f t : Int) : Int × Int := if payE l r p cut (inI c 0 99 && strB f t) = 0 then (paySum l r p cut c f (t - f).toNat, 0) else (0, payE l r p cut (inI c 0 99 && strB f t))

set_option maxHeartbeats 2000000 in
theorem Pay_any (a ra pa : Option Addr) (l : List Fct) (r : List Rgt) (p : List Int) (lc rc pc : Nat) (cut c d : Int) (w : World) (hl : FactsAt w a l) (hcap : l.length ≤ lc) (hr : RgtsAt w ra r) (hp : Ints w pa p) :
  Calls Try.prog 53 #[.slice a l.length lc, .slice ra r.length rc, .slice pa p.length pc, .int .i64 cut, .int .i64 c, .int .i64 d] w (KnownR w (payL l r p cut c d)) := by
  have h1 := hl.len
  have h2 := hr.len
  have h3 := hp.len
  have HV := hid (checkBill_any a ra pa l r p lc rc pc cut (inI c 0 99 && inI d 0 999) w hl hr hp)
  have HP := hid (fun W (h : Below w.heap.size w W) (hE : billE l r p cut = 0) (d0 : 0 ≤ d) (d1 : d + 1 ≤ 1000) => pay_any a ra pa l r p lc rc pc cut c d 1 W (hl.below h) hcap (hr.below h) (hp.below h) hE d0 d1)
  clear hl hr hp
  by_cases h0 : payE l r p cut (inI c 0 99 && inI d 0 999) = 0
  · have HM := hid (show payL l r p cut c d = (paySum l r p cut c d 1, 0) from if_pos h0)
    obtain ⟨e1, e2⟩ := payE_ok h0
    simp at e2
    obtain ⟨g1, g2⟩ := e2
    have hd := inI_iff.1 g2
    have HVb := hid (show Calls Try.prog 86 #[.slice a l.length lc, .slice ra r.length rc, .slice pa p.length pc, .int .i64 cut, .bool true] w (IntR w 0) by
      have := HV.out
      rw [h0, g1, g2] at this
      exact this)
    have HP2 := hid (fun W h => HP.out W h e1 hd.1 (by omega))
    clear h0 HV HP e1
    go_enter Try.func53, Try.ntmps53
    go_wp2_with fail
    refine (isChild_any _ _).mono ?_
    rintro e w' ⟨rfl, rfl⟩
    rw [g1]
    go_wp2_with fail
    refine (isDay_any _ _).mono ?_
    rintro e w' ⟨rfl, rfl⟩
    rw [g2]
    go_wp2_with fail
    refine HVb.out.mono ?_
    rintro e w1 ⟨q1, rfl⟩
    go_wp2_with fail
    refine (HP2.out w1 q1).mono ?_
    rintro e w2 ⟨q2, rfl⟩
    go_wp2
    go_ret2
    exact ⟨q1.trans (q2.mono q1.size), by rw [HM.out]; rfl⟩
  · have HM := hid (show payL l r p cut c d = (0, payE l r p cut (inI c 0 99 && inI d 0 999)) from if_neg h0)
    have h0' : (payE l r p cut (inI c 0 99 && inI d 0 999) != 0) = true := by simp [h0]
    clear h0 HP
    generalize payE l r p cut (inI c 0 99 && inI d 0 999) = x at *
    cases g1 : inI c 0 99 with
    | false =>
      rw [g1] at HV
      go_enter Try.func53, Try.ntmps53
      go_wp2_with fail
      refine (isChild_any _ _).mono ?_
      rintro e w' ⟨rfl, rfl⟩
      rw [g1]
      go_wp2_with fail
      refine HV.out.mono ?_
      rintro e w1 ⟨q1, rfl⟩
      go_wp2
      go_ret2
      exact ⟨q1, by rw [HM.out]; rfl⟩
    | true =>
      rw [g1] at HV
      go_enter Try.func53, Try.ntmps53
      go_wp2_with fail
      refine (isChild_any _ _).mono ?_
      rintro e w' ⟨rfl, rfl⟩
      rw [g1]
      go_wp2_with fail
      refine (isDay_any _ _).mono ?_
      rintro e w' ⟨rfl, rfl⟩
      go_wp2_with fail
      refine HV.out.mono ?_
      rintro e w1 ⟨q1, rfl⟩
      go_wp2
      go_ret2
      exact ⟨q1, by rw [HM.out]; rfl⟩

set_option maxHeartbeats 2000000 in
theorem Bill_any (a ra pa : Option Addr) (l : List Fct) (r : List Rgt) (p : List Int) (lc rc pc : Nat) (cut c f t : Int) (w : World) (hl : FactsAt w a l) (hcap : l.length ≤ lc) (hr : RgtsAt w ra r) (hp : Ints w pa p) :
  Calls Try.prog 55 #[.slice a l.length lc, .slice ra r.length rc, .slice pa p.length pc, .int .i64 cut, .int .i64 c, .int .i64 f, .int .i64 t] w (KnownR w (billL l r p cut c f t)) := by
  have h1 := hl.len
  have h2 := hr.len
  have h3 := hp.len
  have HV := hid (checkBill_any a ra pa l r p lc rc pc cut (inI c 0 99 && strB f t) w hl hr hp)
  have HP := hid (fun W (h : Below w.heap.size w W) (hE : billE l r p cut = 0) (D : Nat) (d0 : 0 ≤ f) (d1 : f + (D : Int) ≤ 1000) => pay_any a ra pa l r p lc rc pc cut c f D W (hl.below h) hcap (hr.below h) (hp.below h) hE d0 d1)
  clear hl hr hp
  by_cases h0 : payE l r p cut (inI c 0 99 && strB f t) = 0
  · obtain ⟨e1, e2⟩ := payE_ok h0
    simp at e2
    obtain ⟨g1, g2⟩ := e2
    have hd := strB_iff.1 g2
    obtain ⟨D, hD⟩ : ∃ D : Nat, (t - f).toNat = D := ⟨_, rfl⟩
    have HM := hid (show billL l r p cut c f t = (paySum l r p cut c f D, 0) by rw [← hD]; exact if_pos h0)
    have HVb := hid (show Calls Try.prog 86 #[.slice a l.length lc, .slice ra r.length rc, .slice pa p.length pc, .int .i64 cut, .bool true] w (IntR w 0) by
      have := HV.out
      rw [h0, g1, g2] at this
      exact this)
    have HP2 := hid (show ∀ W, Below w.heap.size w W → Calls Try.prog 87 #[.slice a l.length lc, .slice ra r.length rc, .slice pa p.length pc, .int .i64 cut, .int .i64 c, .int .i64 f, .int .i64 t] W (IntR W (paySum l r p cut c f D)) from fun W h => by
      have := HP.out W h e1 D hd.1 (by omega)
      rw [show f + (D : Int) = t by omega] at this
      exact this)
    clear h0 HV HP e1 hD
    go_enter Try.func55, Try.ntmps55
    go_wp2_with fail
    refine (isChild_any _ _).mono ?_
    rintro e w' ⟨rfl, rfl⟩
    rw [g1]
    go_wp2_with fail
    refine (isStretch_any _ _ _).mono ?_
    rintro e w' ⟨rfl, rfl⟩
    rw [g2]
    go_wp2_with fail
    refine HVb.out.mono ?_
    rintro e w1 ⟨q1, rfl⟩
    go_wp2_with fail
    refine (HP2.out w1 q1).mono ?_
    rintro e w2 ⟨q2, rfl⟩
    go_wp2
    go_ret2
    exact ⟨q1.trans (q2.mono q1.size), by rw [HM.out]; rfl⟩
  · have HM := hid (show billL l r p cut c f t = (0, payE l r p cut (inI c 0 99 && strB f t)) from if_neg h0)
    have h0' : (payE l r p cut (inI c 0 99 && strB f t) != 0) = true := by simp [h0]
    clear h0 HP
    generalize payE l r p cut (inI c 0 99 && strB f t) = x at *
    cases g1 : inI c 0 99 with
    | false =>
      rw [g1] at HV
      go_enter Try.func55, Try.ntmps55
      go_wp2_with fail
      refine (isChild_any _ _).mono ?_
      rintro e w' ⟨rfl, rfl⟩
      rw [g1]
      go_wp2_with fail
      refine HV.out.mono ?_
      rintro e w1 ⟨q1, rfl⟩
      go_wp2
      go_ret2
      exact ⟨q1, by rw [HM.out]; rfl⟩
    | true =>
      rw [g1] at HV
      go_enter Try.func55, Try.ntmps55
      go_wp2_with fail
      refine (isChild_any _ _).mono ?_
      rintro e w' ⟨rfl, rfl⟩
      rw [g1]
      go_wp2_with fail
      refine (isStretch_any _ _ _).mono ?_
      rintro e w' ⟨rfl, rfl⟩
      go_wp2_with fail
      refine HV.out.mono ?_
      rintro e w1 ⟨q1, rfl⟩
      go_wp2
      go_ret2
      exact ⟨q1, by rw [HM.out]; rfl⟩

set_option maxRecDepth 100000 in
set_option maxHeartbeats 2000000 in
theorem rbilled_any (a ra pa : Option Addr) (l : List Fct) (r : List Rgt) (p : List Int) (lc rc pc : Nat) (cut : Int) (w : World) (hl : FactsAt w a l) (hr : RgtsAt w ra r) (hp : Ints w pa p) :
  Calls Try.prog 88 #[.slice a l.length lc, .slice ra r.length rc, .slice pa p.length pc, .int .i64 cut] w (IntR w (billE l r p cut)) := by
  have h1 := hl.len
  have h2 := hr.len
  have h3 := hp.len
  have HV := hid (rvalidate_any a l lc w hl)
  have HR := hid (fun W (h : Below w.heap.size w W) => rvalidateRights_any ra r rc W (hr.below h))
  have HPI := hid (fun W (h : Below w.heap.size w W) => hp.below h)
  have HB := hid (show billE l r p cut = if validE l = 0 then (if rightsE r = 0 then (if pricesB p = true ∧ inI cut 0 10000 = true then 0 else 1) else rightsE r) else validE l from rfl)
  clear hl hr hp
  by_cases hv : validE l = 0
  · have HB := hid ((HB.out).trans (if_pos hv))
    rw [hv] at HV
    clear hv
    by_cases hr0 : rightsE r = 0
    · have HB := hid ((HB.out).trans (if_pos hr0))
      rw [hr0] at HR
      clear hr0
      by_cases h9 : p.length = 9
      · have hn : ((p.length : Int) != 9) = false := by simp; omega
        have HPB := hid (show pricesB p = allP p by unfold pricesB; rw [h9]; simp)
        clear h9
        cases g2 : inI cut 0 10000 with
        | false =>
          have HX := hid (show billE l r p cut = 1 by rw [HB.out, g2]; simp)
          go_enter Try.func88, Try.ntmps88
          go_wp2_with fail
          refine HV.out.mono ?_
          rintro e w1 ⟨q1, rfl⟩
          go_wp2_with fail
          refine (HR.out w1 q1).mono ?_
          rintro e w2 ⟨q2, rfl⟩
          have p2 := q1.trans (q2.mono q1.size)
          go_wp2_with fail
          refine (rwithin_any _ _ _ _).mono ?_
          rintro e w' ⟨rfl, rfl⟩
          rw [g2]
          go_wp2
          go_ret
          exact ⟨p2, ret_int (by rw [HX.out])⟩
        | true =>
          have HX := hid (show billE l r p cut = if allP p = true then 0 else 1 by rw [HB.out, g2, HPB.out]; simp)
          go_enter Try.func88, Try.ntmps88
          go_wp2_with fail
          refine HV.out.mono ?_
          rintro e w1 ⟨q1, rfl⟩
          go_wp2_with fail
          refine (HR.out w1 q1).mono ?_
          rintro e w2 ⟨q2, rfl⟩
          have p2 := q1.trans (q2.mono q1.size)
          go_wp2_with fail
          refine (rwithin_any _ _ _ _).mono ?_
          rintro e w' ⟨rfl, rfl⟩
          rw [g2]
          have HI := hid (HPI.out w2 p2)
          go_wp2
          go_loop [10] (fun i => ∃ (k : Nat), k ≤ p.length ∧ i = .int .i64 k ∧ Hid (allP p = allP (p.drop k))) (fun i => p.length - (intOf i).toNat)
          case atStart => exact ⟨0, Nat.zero_le _, rfl, rfl⟩
          case round =>
            obtain ⟨k, hk, rfl, HS⟩ := hrel
            by_cases hlt : k < p.length
            · rcases HI.out.at_ with e | ⟨b, off, rfl, hc⟩
              · rw [e] at hlt; simp at hlt
              have g := hc k hlt
              have HD := hid (allP_drop p k hlt)
              clear hc
              generalize p[k]?.getD 0 = x at *
              cases hx : inI x 0 10000 with
              | true =>
                rw [hx] at HD
                go_wp2_with fail
                refine (rwithin_any _ _ _ _).mono ?_
                rintro e w' ⟨rfl, rfl⟩
                rw [hx]
                go_wp2
                go_round
                case rel => exact ⟨k + 1, by omega, by go_num, by unfold Hid; rw [HS.out, HD.out]; rfl⟩
                case measure => simp [intOf]; omega
              | false =>
                rw [hx] at HD
                go_wp2_with fail
                refine (rwithin_any _ _ _ _).mono ?_
                rintro e w' ⟨rfl, rfl⟩
                rw [hx]
                go_wp2
                go_ret
                exact ⟨p2, ret_int (by rw [HX.out, HS.out, HD.out]; rfl)⟩
            · have HT := hid (show allP p = true by rw [HS.out, List.drop_of_length_le (by omega)]; rfl)
              go_wp2
              go_ret
              exact ⟨p2, ret_int (by rw [HX.out, HT.out]; rfl)⟩
      · have hn : ((p.length : Int) != 9) = true := by simp; omega
        have HX := hid (show billE l r p cut = 1 by rw [HB.out, if_neg (by simp [pricesB, h9])])
        clear h9
        go_enter Try.func88, Try.ntmps88
        go_wp2_with fail
        refine HV.out.mono ?_
        rintro e w1 ⟨q1, rfl⟩
        go_wp2_with fail
        refine (HR.out w1 q1).mono ?_
        rintro e w2 ⟨q2, rfl⟩
        have p2 := q1.trans (q2.mono q1.size)
        go_wp2
        go_ret
        exact ⟨p2, ret_int (by rw [HX.out])⟩
    · have HX := hid ((HB.out).trans (if_neg hr0))
      have hr1 : (rightsE r != 0) = true := by simp [hr0]
      clear hr0
      generalize rightsE r = x at *
      go_enter Try.func88, Try.ntmps88
      go_wp2_with fail
      refine HV.out.mono ?_
      rintro e w1 ⟨q1, rfl⟩
      go_wp2_with fail
      refine (HR.out w1 q1).mono ?_
      rintro e w2 ⟨q2, rfl⟩
      have p2 := q1.trans (q2.mono q1.size)
      go_wp2
      go_ret
      exact ⟨p2, ret_int (by rw [HX.out])⟩
  · have HX := hid ((HB.out).trans (if_neg hv))
    have hv1 : (validE l != 0) = true := by simp [hv]
    clear hv
    generalize validE l = x at *
    go_enter Try.func88, Try.ntmps88
    go_wp2_with fail
    refine HV.out.mono ?_
    rintro e w1 ⟨q1, rfl⟩
    go_wp2
    go_ret
    exact ⟨q1, ret_int (by rw [HX.out])⟩

set_option maxRecDepth 100000 in
set_option maxHeartbeats 2000000 in
theorem rpay_any (a ra pa : Option Addr) (l : List Fct) (r : List Rgt) (p : List Int) (lc rc pc : Nat) (cut c d : Int) (w : World) (hl : FactsAt w a l) (hr : RgtsAt w ra r) (hp : Ints w pa p)
  (hE : billE l r p cut = 0) (d0 : 0 ≤ d) (d1 : d ≤ 999) :
  Calls Try.prog 89 #[.slice a l.length lc, .slice ra r.length rc, .slice pa p.length pc, .int .i64 cut, .int .i64 c, .int .i64 d] w (NumR w (payOne l r p cut c d)) := by
  have h1 := hl.len
  have h2 := hr.len
  have h3 := hp.len
  obtain ⟨e1, e2, e3, e4⟩ := billE_ok hE
  obtain ⟨v1, v2, v3⟩ := validE_ok e1
  obtain ⟨u0, u1⟩ := inI_iff.1 e4
  have hp9 : p.length = 9 := by simp [pricesB] at e3; exact e3.2
  have HPr := hid (fun m m0 m9 => rprice_any pa p pc m w hp hp9 m0 m9)
  have HK := hid (fun t => show Calls Try.prog 67 #[.slice a l.length lc, .int .i64 t, .int .i64 c, .int .i64 d] w (NumR w (mealK l c d (cutL t l))) by
    have := rknown_any a l lc t c d w hl
    rw [refMeal_cut v3] at this
    exact this)
  have HFr := hid (rfree_any ra r rc c d w hr)
  have HAll := hid (cut_all v2)
  have m1 := mealK_bd v2 c d (cutL (d * 1440 - cut) l) (cutL_le _ _)
  have m2 := mealK_bd v2 c d l.length (Nat.le_refl _)
  clear hl hr hp hE e1 e2 e3 e4 v2 v3 hp9
  cases hf : freeL c d r with
  | true =>
    have HX := hid (show payOne l r p cut c d = 0 from if_pos hf)
    rw [hf] at HFr
    go_enter Try.func89, Try.ntmps89
    go_wp2_with fail
    refine HFr.out.mono ?_
    rintro e w' ⟨rfl, rfl⟩
    go_wp2
    go_ret
    exact ⟨rfl, ret_int (by rw [HX.out])⟩
  | false =>
    have HX := hid (show payOne l r p cut c d = maxI (priceL p (mealK l c d (cutL (d * 1440 - cut) l))) (priceL p (mealK l c d l.length)) from if_neg (by rw [hf]; simp))
    rw [hf] at HFr
    have HK1 := hid (HK.out (d * 1440 - cut))
    have HK2 := hid (HK.out 1440000)
    rw [HAll.out] at HK2
    have HP1 := hid (HPr.out _ m1.1 m1.2)
    have HP2 := hid (HPr.out _ m2.1 m2.2)
    clear HPr
    generalize mealK l c d (cutL (d * 1440 - cut) l) = y1 at *
    generalize mealK l c d l.length = y2 at *
    generalize priceL p y1 = z1 at *
    generalize priceL p y2 = z2 at *
    by_cases hz : z1 < z2
    · have HZ := hid (show maxI z1 z2 = z2 from if_pos hz)
      go_enter Try.func89, Try.ntmps89
      go_wp2_with fail
      refine HFr.out.mono ?_
      rintro e w' ⟨rfl, rfl⟩
      go_wp2_with fail
      refine HK1.out.mono ?_
      rintro e w' ⟨rfl, rfl⟩
      go_wp2_with fail
      refine HK2.out.mono ?_
      rintro e w' ⟨rfl, rfl⟩
      go_wp2_with fail
      refine HP1.out.mono ?_
      rintro e w' ⟨rfl, rfl⟩
      go_wp2_with fail
      refine HP2.out.mono ?_
      rintro e w' ⟨rfl, rfl⟩
      go_wp2
      go_ret
      exact ⟨rfl, ret_int (by rw [HX.out, HZ.out])⟩
    · have HZ := hid (show maxI z1 z2 = z1 from if_neg hz)
      have hz' : z2 ≤ z1 := by omega
      clear hz
      go_enter Try.func89, Try.ntmps89
      go_wp2_with fail
      refine HFr.out.mono ?_
      rintro e w' ⟨rfl, rfl⟩
      go_wp2_with fail
      refine HK1.out.mono ?_
      rintro e w' ⟨rfl, rfl⟩
      go_wp2_with fail
      refine HK2.out.mono ?_
      rintro e w' ⟨rfl, rfl⟩
      go_wp2_with fail
      refine HP1.out.mono ?_
      rintro e w' ⟨rfl, rfl⟩
      go_wp2_with fail
      refine HP2.out.mono ?_
      rintro e w' ⟨rfl, rfl⟩
      go_wp2
      go_ret
      exact ⟨rfl, ret_int (by rw [HX.out, HZ.out])⟩
end Go.Proofs.Ytcncnakpehnadaa
