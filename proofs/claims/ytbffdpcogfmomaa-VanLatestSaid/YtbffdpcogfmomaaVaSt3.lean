/- The document's test of stops; both tests of a drive: chapter 8. -/
import Derived.Test.YtbffdpcogfmomaaVaSt2
set_option linter.unusedVariables false
namespace Go.Proofs.Ytbffdpcogfmomaa
open Go.RowKit

set_option maxRecDepth 100000 in
set_option maxHeartbeats 4000000 in
theorem rStops_any (a A : Option Addr) (t : Tbl) (l : List St) (cap c : Nat) (w : World) (h : TabAt w a t) (hs : StsAt w A l) : Calls Try.prog 45 #[.slice a t.length cap, .slice A l.length c] w (IntR w (stsE t l)) := by
  have HV := hid (rValidate_any a t cap w h)
  have htl := h.len
  have hsl := hs.len
  by_cases hv : vaV t = 0
  · rw [hv] at HV
    by_cases hlt : l.length = t.length
    · have HBad := hid (fun k hk e => stsE_bad (t := t) (l := l) (k := k) hv hk e)
      have HAll := hid (fun e => stsE_all (t := t) (l := l) hv hlt e)
      have hne : ((l.length : Int) == (t.length : Int)) = true := by simp; omega
      have hne2 : ((l.length : Int) != (t.length : Int)) = false := by simp; omega
      have HS := hid hs
      clear h hs hv hlt
      go_enter Try.func45, Try.ntmps45
      go_wp2_with fail
      refine HV.out.mono ?_
      rintro e w1 ⟨hb1, rfl⟩
      have HB1 := hid hb1
      clear hb1 HV
      go_wp2_with fail
      go_loopw [6] (fun i wr => ∃ (k : Nat), k ≤ l.length ∧ i = .int .i64 k ∧ Hid (∀ j, j < k → okSt (stAt l j) = true) ∧ Hid (Below w.heap.size w wr)) (fun i _ => l.length - (intOf i).toNat)
      case atStart => exact ⟨0, Nat.zero_le _, rfl, fun j hj => by omega, HB1⟩
      case round =>
        obtain ⟨k, hk, rfl, HG, HB⟩ := hrel
        clear HB1
        by_cases hltk : k < l.length
        · obtain ⟨b, off, rfl, hc⟩ := (HS.out.below HB.out).open_ (by omega)
          obtain ⟨c0, c1, c2, c3⟩ := hc k hltk
          have HX := hid (fun e => HBad.out k hltk e)
          have HY := hid (fun (e : okSt (stAt l k) = true) => show ∀ j, j < k + 1 → okSt (stAt l j) = true from fun j hj => by
            rcases Nat.lt_or_ge j k with h | h
            · exact HG.out j h
            · rw [show j = k by omega]; exact e)
          have HP := hid (fun (W : World) => vPossible_any (stAt l k) W)
          have hsz := HB.out.size
          have HB2 := hid (HB.out.alloc hsz (.cells #[.int .i64 (stAt l k).op, .int .i64 (stAt l k).cl, .int .i64 (stAt l k).sy, .int .i64 (stAt l k).bx] 105))
          clear hc
          generalize stAt l k = s at *
          obtain ⟨x, y, z, u⟩ := s
          simp only at c0 c1 c2 c3
          have HE := hid (show okSt ⟨x, y, z, u⟩ = (((zin x 0 10000 && zin y 0 10000) && zin z 0 10000) && zin u 0 100) from rfl)
          have H1 := hid (fun w => rWithin8_any x 0 10000 w)
          have H2 := hid (fun w => rWithin8_any y 0 10000 w)
          have H3 := hid (fun w => rWithin8_any z 0 10000 w)
          have H4 := hid (fun w => rWithin8_any u 0 100 w)
          clear HP
          cases h1 : zin x 0 10000 with
          | false =>
            have HZ := hid (HX.out (by rw [HE.out, h1]; simp))
            rw [h1] at H1
            clear HX HY HE
            go_wp2_with fail
            refine (H1.out _).mono ?_
            rintro e w2 ⟨rfl, rfl⟩
            go_wp2
            go_ret
            exact ⟨HB2.out, ret_int (by rw [HZ.out])⟩
          | true =>
            cases h2 : zin y 0 10000 with
            | false =>
              have HZ := hid (HX.out (by rw [HE.out, h1, h2]; simp))
              rw [h1] at H1
              rw [h2] at H2
              clear HX HY HE
              go_wp2_with fail
              refine (H1.out _).mono ?_
              rintro e w2 ⟨rfl, rfl⟩
              go_wp2_with fail
              refine (H2.out _).mono ?_
              rintro e w3 ⟨rfl, rfl⟩
              go_wp2
              go_ret
              exact ⟨HB2.out, ret_int (by rw [HZ.out])⟩
            | true =>
              cases h3 : zin z 0 10000 with
              | false =>
                have HZ := hid (HX.out (by rw [HE.out, h1, h2, h3]; simp))
                rw [h1] at H1
                rw [h2] at H2
                rw [h3] at H3
                clear HX HY HE
                go_wp2_with fail
                refine (H1.out _).mono ?_
                rintro e w2 ⟨rfl, rfl⟩
                go_wp2_with fail
                refine (H2.out _).mono ?_
                rintro e w3 ⟨rfl, rfl⟩
                go_wp2_with fail
                refine (H3.out _).mono ?_
                rintro e w4 ⟨rfl, rfl⟩
                go_wp2
                go_ret
                exact ⟨HB2.out, ret_int (by rw [HZ.out])⟩
              | true =>
                cases h4 : zin u 0 100 with
                | false =>
                  have HZ := hid (HX.out (by rw [HE.out, h1, h2, h3, h4]; simp))
                  rw [h1] at H1
                  rw [h2] at H2
                  rw [h3] at H3
                  rw [h4] at H4
                  clear HX HY HE
                  go_wp2_with fail
                  refine (H1.out _).mono ?_
                  rintro e w2 ⟨rfl, rfl⟩
                  go_wp2_with fail
                  refine (H2.out _).mono ?_
                  rintro e w3 ⟨rfl, rfl⟩
                  go_wp2_with fail
                  refine (H3.out _).mono ?_
                  rintro e w4 ⟨rfl, rfl⟩
                  go_wp2_with fail
                  refine (H4.out _).mono ?_
                  rintro e w5 ⟨rfl, rfl⟩
                  go_wp2
                  go_ret
                  exact ⟨HB2.out, ret_int (by rw [HZ.out])⟩
                | true =>
                  have HZ := hid (HY.out (by rw [HE.out, h1, h2, h3, h4]; rfl))
                  rw [h1] at H1
                  rw [h2] at H2
                  rw [h3] at H3
                  rw [h4] at H4
                  clear HX HY HE
                  go_wp2_with fail
                  refine (H1.out _).mono ?_
                  rintro e w2 ⟨rfl, rfl⟩
                  go_wp2_with fail
                  refine (H2.out _).mono ?_
                  rintro e w3 ⟨rfl, rfl⟩
                  go_wp2_with fail
                  refine (H3.out _).mono ?_
                  rintro e w4 ⟨rfl, rfl⟩
                  go_wp2_with fail
                  refine (H4.out _).mono ?_
                  rintro e w5 ⟨rfl, rfl⟩
                  go_wp2
                  go_roundw
                  case rel => exact ⟨k + 1, by omega, by go_num, HZ, HB2⟩
                  case measure => simp [intOf]; omega
        · have HZ := hid (HAll.out (fun j hj => HG.out j (by omega)))
          go_wp2
          go_ret
          exact ⟨HB.out, ret_int (by rw [HZ.out])⟩
    · have HN := hid (stsE_len (l := l) hv hlt)
      have hne : ((l.length : Int) == (t.length : Int)) = false := by simp; omega
      have hne2 : ((l.length : Int) != (t.length : Int)) = true := by simp; omega
      clear h hs hv hlt
      go_enter Try.func45, Try.ntmps45
      go_wp2_with fail
      refine HV.out.mono ?_
      rintro e w1 ⟨hb1, rfl⟩
      have HB1 := hid hb1
      clear hb1
      go_wp2
      go_ret
      exact ⟨HB1.out, ret_int (by rw [HN.out])⟩
  · have HN := hid (stsE_val (l := l) hv)
    have hne : (vaV t == 0) = false := by simp; exact hv
    clear h hs
    generalize vaV t = e0 at *
    go_enter Try.func45, Try.ntmps45
    go_wp2_with fail
    refine HV.out.mono ?_
    rintro e w1 ⟨hb1, rfl⟩
    have HB1 := hid hb1
    clear hb1
    go_wp2
    go_ret
    exact ⟨HB1.out, ret_int (by rw [HN.out])⟩
set_option maxRecDepth 100000 in
set_option maxHeartbeats 2000000 in
theorem vCheckStops_any (a A B : Option Addr) (t : Tbl) (l : List St) (o : List Int) (cap c d : Nat) (w : World) (h : TabAt w a t) (hs : StsAt w A l) (hi : Ints w B o) : Calls Try.prog 85 #[.slice a t.length cap, .slice A l.length c, .slice B o.length d] w (IntR w (touE t l o)) := by
  have HV := hid (vStops_any a A t l cap c w h hs)
  have htl := h.len
  by_cases hv : stsE t l = 0
  · have hl7 := (stsE_ok hv).1.len
    rw [hv] at HV
    have HE := hid (show touE t l o = tourE o t.length from if_pos hv)
    have HT := hid (fun (W : World) (hb : Below w.heap.size w W) => vCheckTour_any B o d t.length W (hi.below hb) hl7)
    clear h hs hi hv
    generalize tourE o t.length = e1 at *
    go_enter Try.func85, Try.ntmps85
    go_wp2_with fail
    refine HV.out.mono ?_
    rintro e w1 ⟨hb1, rfl⟩
    have HB1 := hid hb1
    have HC := hid (HT.out w1 hb1)
    clear hb1
    go_wp2_with fail
    refine HC.out.mono ?_
    rintro e w2 ⟨hb2, rfl⟩
    have HB2 := hid (HB1.out.trans (hb2.mono HB1.out.size))
    clear hb2 HC
    go_wp2
    go_ret
    exact ⟨HB2.out, ret_int (by rw [HE.out])⟩
  · have HN := hid (show touE t l o = stsE t l from if_neg hv)
    have hne : (stsE t l == 0) = false := by simp; exact hv
    clear h hs hi
    generalize stsE t l = e0 at *
    go_enter Try.func85, Try.ntmps85
    go_wp2_with fail
    refine HV.out.mono ?_
    rintro e w1 ⟨hb1, rfl⟩
    have HB1 := hid hb1
    clear hb1
    go_wp2
    go_ret
    exact ⟨HB1.out, ret_int (by rw [HN.out])⟩
set_option maxRecDepth 100000 in
set_option maxHeartbeats 2000000 in
theorem rToured_any (a A B : Option Addr) (t : Tbl) (l : List St) (o : List Int) (cap c d : Nat) (w : World) (h : TabAt w a t) (hs : StsAt w A l) (hi : Ints w B o) : Calls Try.prog 78 #[.slice a t.length cap, .slice A l.length c, .slice B o.length d] w (IntR w (touE t l o)) := by
  have HV := hid (rStops_any a A t l cap c w h hs)
  have htl := h.len
  by_cases hv : stsE t l = 0
  · have hl7 := (stsE_ok hv).1.len
    rw [hv] at HV
    have HE := hid (show touE t l o = tourE o t.length from if_pos hv)
    have HT := hid (fun (W : World) (hb : Below w.heap.size w W) => rIsTour_any a B t o cap d W (hi.below hb) hl7)
    clear h hs hi hv
    generalize tourE o t.length = e1 at *
    go_enter Try.func78, Try.ntmps78
    go_wp2_with fail
    refine HV.out.mono ?_
    rintro e w1 ⟨hb1, rfl⟩
    have HB1 := hid hb1
    have HC := hid (HT.out w1 hb1)
    clear hb1
    go_wp2_with fail
    refine HC.out.mono ?_
    rintro e w2 ⟨hb2, rfl⟩
    have HB2 := hid (HB1.out.trans (hb2.mono HB1.out.size))
    clear hb2 HC
    go_wp2
    go_ret
    exact ⟨HB2.out, ret_int (by rw [HE.out])⟩
  · have HN := hid (show touE t l o = stsE t l from if_neg hv)
    have hne : (stsE t l == 0) = false := by simp; exact hv
    clear h hs hi
    generalize stsE t l = e0 at *
    go_enter Try.func78, Try.ntmps78
    go_wp2_with fail
    refine HV.out.mono ?_
    rintro e w1 ⟨hb1, rfl⟩
    have HB1 := hid hb1
    clear hb1
    go_wp2
    go_ret
    exact ⟨HB1.out, ret_int (by rw [HN.out])⟩
set_option maxRecDepth 100000 in
set_option maxHeartbeats 2000000 in
theorem vCheckDrive_any (a A B : Option Addr) (t : Tbl) (l : List St) (o : List Int) (b : Int) (cap c d : Nat) (w : World) (h : TabAt w a t) (hs : StsAt w A l) (hi : Ints w B o) : Calls Try.prog 76 #[.slice a t.length cap, .slice A l.length c, .slice B o.length d, .int .i64 b] w (IntR w (drvE t l o b)) := by
  have HV := hid (vCheckStops_any a A B t l o cap c d w h hs hi)
  by_cases hv : touE t l o = 0
  · rw [hv] at HV
    have HE := hid (show drvE t l o b = if zin b 0 10000 = true then 0 else 1 from if_pos hv)
    have HA := hid (fun w => vWithin_any b 0 10000 w)
    clear h hs hi hv
    cases hz : zin b 0 10000 with
    | false =>
      rw [hz] at HA HE
      clear hz
      go_enter Try.func76, Try.ntmps76
      go_wp2_with fail
      refine HV.out.mono ?_
      rintro e w1 ⟨hb1, rfl⟩
      have HB1 := hid hb1
      clear hb1
      go_wp2_with fail
      refine (HA.out _).mono ?_
      rintro e w2 ⟨rfl, rfl⟩
      go_wp2
      go_ret
      exact ⟨HB1.out, ret_int (by rw [HE.out]; rfl)⟩
    | true =>
      rw [hz] at HA HE
      clear hz
      go_enter Try.func76, Try.ntmps76
      go_wp2_with fail
      refine HV.out.mono ?_
      rintro e w1 ⟨hb1, rfl⟩
      have HB1 := hid hb1
      clear hb1
      go_wp2_with fail
      refine (HA.out _).mono ?_
      rintro e w2 ⟨rfl, rfl⟩
      go_wp2
      go_ret
      exact ⟨HB1.out, ret_int (by rw [HE.out]; rfl)⟩
  · have HN := hid (show drvE t l o b = touE t l o from if_neg hv)
    have hne : (touE t l o == 0) = false := by simp; exact hv
    clear h hs hi
    generalize touE t l o = e0 at *
    go_enter Try.func76, Try.ntmps76
    go_wp2_with fail
    refine HV.out.mono ?_
    rintro e w1 ⟨hb1, rfl⟩
    have HB1 := hid hb1
    clear hb1
    go_wp2
    go_ret
    exact ⟨HB1.out, ret_int (by rw [HN.out])⟩
end Go.Proofs.Ytbffdpcogfmomaa
