/- The law TopDays: its walk. -/
import Derived.Test.YtilolaednbcaoaaTopDaysS
import Derived.Test.YtilolaednbcaoaaOpens
import Derived.Deep.QuietTactic
import Derived.BigQuiet
set_option linter.unusedVariables false
namespace Go.Proofs.Ytilolaednbcaoaa
open Go.RowKit

set_option maxRecDepth 100000 in
set_option maxHeartbeats 16000000 in
theorem topDays_main (N : Nat) (ra : Option Addr) (rs : List Int) (rc : Nat) (ca : Option Addr) (cs : List Int) (cc : Nat) (mn : Nat) (f k dy : Int) (w : World)
  (h1 : rs.length ≤ 9223372036854775807) (h2 : cs.length ≤ 9223372036854775807) (hl : longB rs cs = false) (hv : validT (N : Int) rs cs = 0) (hb : badC (mn : Int) f k = false) (hT : TermAt w (N : Int) ra rs ca cs) :
  Calls Try.prog 8 #[.agg #[.int .i64 N, .slice ra rs.length rc, .slice ca cs.length cc], .agg #[.int .i64 mn, .int .i64 f, .int .i64 k], .int .i64 dy] w (BoolR w true) := by
  have HS0 := hid (TDs.made w (N : Int) (.slice ra rs.length rc) (.slice ca cs.length cc) (mn : Int) f k)
  obtain ⟨v1, v2, _⟩ := validT_ok hv
  obtain ⟨c1, c2, c3, c4, c5⟩ := validC_ok hb
  have hN : (N : Int).toNat = N := by simp
  have HDays := hid (fun (j : Nat) (hj : j < mn) (w' : World) (ha : TermAt w' (N : Int) ra rs ca cs) => by
    have := days_any (N : Int) ra rs rc ca cs cc (mn : Int) f k (j : Int) w' ha
    rw [td_days hv hb (by omega) (by omega)] at this
    exact this)
  have HOpen := hid (fun (d : Nat) (hd : d < N) (w' : World) (ha : TermAt w' (N : Int) ra rs ca cs) => by
    have := isOpen_any (N : Int) ra rs rc ca cs cc (d : Int) w' ha
    rw [td_open hv (by omega) (by omega)] at this
    exact this)
  have HMenu := hid (fun (d : Nat) (hd : d < N) (w' : World) (ha : TermAt w' (N : Int) ra rs ca cs) => by
    have := menu_any (N : Int) ra rs rc ca cs cc (mn : Int) f k (d : Int) w' ha
    rw [td_menu hv hb (by omega) (by omega), Int.toNat_natCast] at this
    exact this)
  have HNth := hid (fun (d : Nat) (hd : d < N) (ho : openB rs cs (d : Int) = true) (w' : World) (ha : TermAt w' (N : Int) ra rs ca cs) => by
    have := nth_any (N : Int) ra rs rc ca cs cc (opn rs cs d) w' ha
    rw [nth_open hv (by omega) ho] at this
    exact this)
  have HEnd := hid (fun (w' : World) (ha : TermAt w' (N : Int) ra rs ca cs) => by
    have := nth_any (N : Int) ra rs rc ca cs cc (opn rs cs N) w' ha
    have he := nth_end (rs := rs) (cs := cs) hv
    rw [hN] at he
    rw [he] at this
    exact this)
  have HG0 := hid (show GoodT (((N : Int), rs, cs), 0) from by
    have hlen := longB_false hl
    exact ⟨⟨hT.lo, hT.hi⟩, ⟨by dsimp only; omega, by dsimp only; omega⟩, hT.rest.bd, hT.closed.bd⟩)
  have HGp := hid (good_close (d := dy) HG0.out)
  have HCl := hid (fun (w' : World) (ha : TermAt w' (N : Int) ra rs ca cs) => close_any (N : Int) ra rs rc ca cs cc dy w' ha)
  have HRo := hid (fun (he : (closeL (N : Int) rs cs dy).2 = 0) (A : Option Addr) (a : Nat) (B : Option Addr) (b : Nat) (w' : World) (ha : TermAt w' (closeL (N : Int) rs cs dy).1.1 A (closeL (N : Int) rs cs dy).1.2.1 B (closeL (N : Int) rs cs dy).1.2.2) => by
    have := reopen_any (closeL (N : Int) rs cs dy).1.1 A (closeL (N : Int) rs cs dy).1.2.1 a B (closeL (N : Int) rs cs dy).1.2.2 b dy w' ha
    rw [close_reopen2 he] at this
    exact this)
  have HCo := hid (fun (he : (closeL (N : Int) rs cs dy).2 = 0) (A : Option Addr) (a : Nat) (B : Option Addr) (b : Nat) (w' : World) (ha : TermAt w' (closeL (N : Int) rs cs dy).1.1 A (closeL (N : Int) rs cs dy).1.2.1 B (closeL (N : Int) rs cs dy).1.2.2) => by
    have := count_any (closeL (N : Int) rs cs dy).1.1 A (closeL (N : Int) rs cs dy).1.2.1 a B (closeL (N : Int) rs cs dy).1.2.2 b 0 (N : Int) w' ha
    rw [closed_count he, hN] at this
    exact this)
  have HDy := hid (fun (he : (closeL (N : Int) rs cs dy).2 = 0) => (show ∃ x : Nat, dy = (x : Int) ∧ x < N from by
    obtain ⟨z1, _⟩ := closeL_ok he
    obtain ⟨_, z2, z3⟩ := checkD_ok z1
    exact ⟨dy.toNat, by omega, by omega⟩))
  have HRl := hid (show (allM (N : Int) rs cs (mn : Int) f k).length = N from by rw [allM_len, hN])
  have HRat := hid (fun (d : Nat) (hd : d < N) => allM_at (L := (N : Int)) rs cs k c1 c3 c4 (d := d) (by omega))
  have HRw := hid (fun (hk : k = 0) (d : Nat) (hd : d < N) (ho : openB rs cs (d : Int) = true) => (show (allM (N : Int) rs cs (mn : Int) f k)[d]?.getD 0 = (f + opn rs cs d) % (mn : Int) from by
    subst hk
    rw [allM, rst_day _ _ _ _ _ _ _ (by omega), if_pos ho, rst_waits rs cs (mn : Int) f c1 c3 c4]))
  have HOb := hid (fun (d : Nat) => opn_bd rs cs d)
  have HOs := hid (fun (d : Nat) => opn_succ rs cs d)
  have HT := hid hT
  have HLo := hid hl
  have HV := hid hv
  have HB := hid hb
  generalize allM (N : Int) rs cs (mn : Int) f k = R at *
  generalize closeL (N : Int) rs cs dy = p at *
  obtain ⟨⟨p1, p2, p3⟩, pe⟩ := p
  dsimp only at HRo HCo HDy
  clear hT hl hv hb hN
  go_enter Try.func8, Try.ntmps8
  go_wp2_with fail
  refine (weekly_any _).mono ?_
  rintro e w1 ⟨q1, a, ac, rfl, hT1⟩
  have HS1 := hid (HS0.out.keep q1)
  have HC := count_any 7 a [5, 6] ac none [] 0 0 7 w1 hT1
  simp only [List.length_cons, List.length_nil, Nat.zero_add, Nat.reduceAdd] at HC
  rw [week_count] at HC
  have HC' := hid HC
  clear HC q1 hT1 HS0
  go_wp2_with fail
  refine HC'.out.mono ?_
  clear HC'
  rintro e w2 ⟨q2, rfl⟩
  have HS2 := hid (HS1.out.keep q2)
  obtain ⟨⟨a0, a1, a2⟩, ⟨b0, b1, b2⟩, _⟩ := HS2.out
  clear q2 HS1
  go_wp2_with fail
  refine (long_any _ _ _ _ _ _ _ _ h1 h2).mono ?_
  rintro e w3 ⟨q3, rfl⟩
  rw [HLo.out]
  have HS3 := hid (HS2.out.keep q3)
  clear q3 HS2 a0 a1 a2 b0 b1 b2
  obtain ⟨⟨a0, a1, a2⟩, ⟨b0, b1, b2⟩, _⟩ := HS3.out
  go_wp2_with fail
  refine (validate_any _ _ _ _ _ _ _ _ (HT.out.below HS3.out.2.2)).mono ?_
  rintro e w4 ⟨q4, rfl⟩
  rw [HV.out]
  have HS4 := hid (HS3.out.keep q4)
  clear q4 HS3 a0 a1 a2 b0 b1 b2
  obtain ⟨⟨a0, a1, a2⟩, ⟨b0, b1, b2⟩, _⟩ := HS4.out
  go_wp2_with fail
  refine (validateCycle_any _ _ _ _).mono ?_
  rintro e w5 ⟨q5, rfl⟩
  rw [show validC (mn : Int) f k = 0 by simp [validC, HB.out]]
  have HS5 := hid (HS4.out.keep q5)
  clear q5 HS4 a0 a1 a2 b0 b1 b2
  obtain ⟨⟨a0, a1, a2⟩, ⟨b0, b1, b2⟩, _⟩ := HS5.out
  have hmk := make_n N (by omega)
  have hm5 := (Below.refl w5.heap.size w5).alloc (Nat.le_refl _) (.cells (Array.replicate N (Value.int .i64 0)) 3)
  have HS6 := hid (HS5.out.keep hm5)
  have HM6 := hid (MenuS.made w5 N)
  have hlt5 := HS5.out.lt
  clear hm5
  go_wp2
  go_loopw [10] (fun i wr => ∃ (q : Nat) (M : List Int), q ≤ N ∧ i = .int .i64 q ∧ Hid (∀ d, d < q → M[d]?.getD 0 = -1) ∧ Hid (MenuS wr w5.heap.size N M) ∧ Hid (TDs w (N : Int) (.slice ra rs.length rc) (.slice ca cs.length cc) (mn : Int) f k wr)) (fun i _ => N - (intOf i).toNat)
  case atStart => exact ⟨0, List.replicate N 0, Nat.zero_le _, rfl, fun d hd => by omega, HM6.out, HS6.out⟩
  case round =>
    clear hmk a0 a1 a2 b0 b1 b2 HS5 HS6 HM6
    obtain ⟨q, M, hq, rfl, HMa, HMr, HSr⟩ := hrel
    obtain ⟨⟨a0, a1, a2⟩, ⟨b0, b1, b2⟩, _⟩ := HSr.out
    by_cases hlt : q < N
    · obtain ⟨e0, e1⟩ := HMr.out.2.2 q hlt
      go_wp2
      go_roundw
      case rel =>
        refine ⟨q + 1, M.set q (-1), by omega, by go_num, fun d hd => ?_, HMr.out.set hlt _, HSr.out.set hlt5 _⟩
        have hml := HMr.out.1
        by_cases hdq : q = d
        · subst hdq; rw [List.getElem?_set_self (by omega)]; rfl
        · rw [List.getElem?_set_ne hdq]; exact HMa.out d (by omega)
      case measure => simp [intOf]; omega
    · obtain rfl : q = N := by omega
      have HF := hid (FillP.start R (fun d hd => by
        have := HRat.out d (by rw [← HRl.out]; exact hd)
        split at this <;> omega) M (by rw [HRl.out]; exact HMr.out.1) (fun d hd => HMa.out d (by rw [← HRl.out]; exact hd)))
      clear HMa hlt
      go_wp2
      go_loopw [11] (fun i wr => ∃ (j : Nat) (M : List Int), j ≤ mn ∧ i = .int .i64 j ∧ Hid (FillP R (j : Int) [] M) ∧ Hid (MenuS wr w5.heap.size q M) ∧ Hid (TDs w (q : Int) (.slice ra rs.length rc) (.slice ca cs.length cc) (mn : Int) f k wr)) (fun i _ => mn - (intOf i).toNat)
      case atStart => exact ⟨0, M, Nat.zero_le _, rfl, HF.out, HMr.out, HSr.out⟩
      case round =>
        clear a0 a1 a2 b0 b1 b2 HF HMr HSr
        obtain ⟨j, M, hj, rfl, HF, HMr, HSr⟩ := hrel
        obtain ⟨⟨a0, a1, a2⟩, ⟨b0, b1, b2⟩, _⟩ := HSr.out
        by_cases hjlt : j < mn
        · go_wp2_with fail
          refine (HDays.out j hjlt _ (HT.out.below HSr.out.2.2)).mono ?_
          rintro e w6 ⟨q6, v, rfl, hown⟩
          dsimp only at hown ⊢
          obtain ⟨A, ac2, rfl⟩ := own_slice hown
          have HMx := hid (HMr.out.keep q6)
          have HSx := hid (HSr.out.keep q6)
          have HOw := hid hown
          have hgr := HMr.out.2.1
          have HLn := hid (show (rdw (j : Int) R R.length).length ≤ R.length from rdw_len _ _ _)
          have hln := Nat.le_trans HLn.out (Nat.le_of_eq HRl.out)
          clear hown q6 a0 a1 a2 b0 b1 b2 HMr HSr
          go_wp2
          go_loopw [14] (fun i wx => ∃ (z : Nat) (M : List Int), z ≤ (rdw (j : Int) R R.length).length ∧ i = .int .i64 z ∧ Hid (FillP R (j : Int) ((rdw (j : Int) R R.length).take z) M) ∧ Hid (MenuS wx w5.heap.size q M) ∧ Hid (TDs w (q : Int) (.slice ra rs.length rc) (.slice ca cs.length cc) (mn : Int) f k wx) ∧ Hid (Own wx wr.heap.size (.slice A (rdw (j : Int) R R.length).length ac2) (rdw (j : Int) R R.length))) (fun i _ => (rdw (j : Int) R R.length).length - (intOf i).toNat)
          case atStart => exact ⟨0, M, Nat.zero_le _, rfl, HF.out, HMx.out, HSx.out, HOw.out⟩
          case round =>
            clear HF HMx HSx HOw
            obtain ⟨z, M', hz, rfl, HFz, HMz, HSz, HOz⟩ := hrel
            obtain ⟨⟨a0, a1, a2⟩, ⟨b0, b1, b2⟩, _⟩ := HSz.out
            by_cases hzl : z < (rdw (j : Int) R R.length).length
            · obtain ⟨x, hx, hxl, hMx, hF'⟩ := HFz.out.step hzl
              have HF' := hid hF'
              clear hF'
              rw [HRl.out] at hxl
              obtain ⟨b, hA, hbg, hcl⟩ := HOz.out.cells z hzl
              rw [hx] at hcl
              obtain ⟨e0, e1⟩ := HMz.out.2.2 x hxl
              rw [hMx] at e0
              have HA := hid hA
              have i0 : (0 : Int) ≤ (z : Int) := by omega
              have i1 : (z : Int) < ((rdw (j : Int) R R.length).length : Int) := by omega
              have i2 : (0 : Int) ≤ (x : Int) := by omega
              have i3 : (x : Int) < (q : Int) := by omega
              have t1 : ((x : Int) < 0) = False := by simp
              have t2 : ((q : Int) ≤ (x : Int)) = False := by simp; omega
              subst hA
              clear hx hMx a1 a2 b0 b1 b2
              go_wp2
              go_quiet (fail)
              go_wp2
              go_roundw
              case rel => exact ⟨z + 1, M'.set x (j : Int), by omega, by go_num, HF'.out, (HMz.out.keep (below_drewN (Below.refl _ _) _)).set hxl _, (HSz.out.keep (below_drewN (Below.refl _ _) _)).set hlt5 _, own_setCell ((HOz.out).below (below_drewN (Below.refl _ _) _)) _ (by simp; omega) _⟩
              case measure => simp [intOf]; omega
            · obtain rfl : z = (rdw (j : Int) R R.length).length := by omega
              have hFn := HFz.out
              rw [List.take_length] at hFn
              have HFn := hid hFn.next
              clear hFn hzl HFz a1 a2 b1 b2
              go_wp2
              go_roundw
              case rel => exact ⟨j + 1, M', by omega, by go_num, HFn.out, HMz.out, HSz.out⟩
              case measure => simp [intOf]; omega
        · obtain rfl : j = mn := by omega
          have HMR := hid (HF.out.done (fun d hd => by
            have := HRat.out d (by rw [← HRl.out]; exact hd)
            split at this <;> omega))
          obtain rfl := HMR.out
          clear HF HDays hjlt HMR
          go_wp2
          go_loopw [15, 16] (fun c i wx => ∃ d : Nat, d ≤ q ∧ i = .int .i64 d ∧ c = .int .i64 (opn rs cs d) ∧ Hid (MenuS wx w5.heap.size q M) ∧ Hid (TDs w (q : Int) (.slice ra rs.length rc) (.slice ca cs.length cc) (j : Int) f k wx)) (fun _ i _ => q - (intOf i).toNat)
          case atStart => exact ⟨0, Nat.zero_le _, rfl, rfl, HMr.out, HSr.out⟩
          case round =>
            clear HMr HSr a0 a1 a2 b0 b1 b2
            obtain ⟨d, hd, rfl, rfl, HMr, HSr⟩ := hrel
            obtain ⟨⟨a0, a1, a2⟩, ⟨b0, b1, b2⟩, _⟩ := HSr.out
            have hob := HOb.out d
            have HOsd := hid (HOs.out d)
            by_cases hdl : d < q
            · go_wp2_with fail
              refine (HOpen.out d hdl _ (HT.out.below HSr.out.2.2)).mono ?_
              rintro e w6 ⟨q6, rfl⟩
              have HMx := hid (HMr.out.keep q6)
              have HSx := hid (HSr.out.keep q6)
              clear q6 a0 a1 a2 b0 b1 b2 HMr HSr
              obtain ⟨⟨a0, a1, a2⟩, ⟨b0, b1, b2⟩, _⟩ := HSx.out
              dsimp only
              go_wp2_with fail
              refine (HMenu.out d hdl _ (HT.out.below HSx.out.2.2)).mono ?_
              rintro e w7 ⟨q7, rfl⟩
              have HMy := hid (HMx.out.keep q7)
              have HSy := hid (HSx.out.keep q7)
              clear q7 a0 a1 a2 b0 b1 b2 HMx HSx
              obtain ⟨⟨a0, a1, a2⟩, ⟨b0, b1, b2⟩, _⟩ := HSy.out
              obtain ⟨e0, e1⟩ := HMy.out.2.2 d hdl
              have hrat := HRat.out d hdl
              have HWd := hid (fun hk ho => HRw.out hk d hdl ho)
              have HNd := hid (fun ho => HNth.out d hdl ho)
              have i0 : (0 : Int) ≤ (d : Int) := by omega
              have i1 : (d : Int) < (q : Int) := by omega
              generalize M[d]?.getD 0 = y at *
              cases ho : openB rs cs (d : Int) with
              | false =>
                rw [ho] at hrat HOsd
                simp only [Bool.false_eq_true, if_false, Int.add_zero] at hrat HOsd ⊢
                subst hrat
                generalize hoc : opn rs cs d = oc at *
                clear HWd HNd
                go_wp2
                go_roundw
                case rel => exact ⟨d + 1, by omega, by go_num, by rw [HOsd.out], HMy.out, HSy.out⟩
                case measure => simp [intOf]; omega
              | true =>
                rw [ho] at hrat HOsd
                simp only [if_true] at hrat HOsd ⊢
                have HNo := hid (HNd.out ho)
                have HWo := hid (fun hk => HWd.out hk ho)
                have y0 : ((0 : Int) ≤ y) = True := by simp; exact hrat.1
                clear HWd HNd ho
                generalize hoc : opn rs cs d = oc at *
                by_cases hk : k = 0
                · have hy := HWo.out hk
                  subst hk
                  have htm : Int.tmod (f + oc) (j : Int) = y := by rw [Int.tmod_eq_emod_of_nonneg (by omega), hy]
                  have hjz : ((j : Int) == 0) = false := by simp; omega
                  clear HWo hy
                  go_wp2_with fail
                  refine (HNo.out _ (HT.out.below HSy.out.2.2)).mono ?_
                  rintro e w8 ⟨q8, rfl⟩
                  have HMz := hid (HMy.out.keep q8)
                  have HSz := hid (HSy.out.keep q8)
                  clear q8 a0 a1 a2 b0 b1 b2 HMy HSy htm
                  go_wp2
                  go_roundw
                  case rel => exact ⟨d + 1, by omega, by go_num, by rw [HOsd.out], HMz.out, HSz.out⟩
                  case measure => simp [intOf]; omega
                · have hkz : (k == 0) = false := by simp [hk]
                  clear HWo hk
                  go_wp2_with fail
                  refine (HNo.out _ (HT.out.below HSy.out.2.2)).mono ?_
                  rintro e w8 ⟨q8, rfl⟩
                  have HMz := hid (HMy.out.keep q8)
                  have HSz := hid (HSy.out.keep q8)
                  clear q8 a0 a1 a2 b0 b1 b2 HMy HSy
                  go_wp2
                  go_roundw
                  case rel => exact ⟨d + 1, by omega, by go_num, by rw [HOsd.out], HMz.out, HSz.out⟩
                  case measure => simp [intOf]; omega
            · obtain rfl : d = q := by omega
              go_wp2_with fail
              refine (HEnd.out _ (HT.out.below HSr.out.2.2)).mono ?_
              rintro e w6 ⟨q6, rfl⟩
              have HMx := hid (HMr.out.keep q6)
              have HSx := hid (HSr.out.keep q6)
              clear q6 a0 a1 a2 b0 b1 b2 HMr HSr HOpen HMenu HNth HEnd HRw HOs HOsd
              obtain ⟨⟨a0, a1, a2⟩, ⟨b0, b1, b2⟩, _⟩ := HSx.out
              go_wp2_with fail
              refine (HCl.out _ (HT.out.below HSx.out.2.2)).mono ?_
              rintro e w7 ⟨q7, PA, pa, PB, pb, rfl, oPA, oPB⟩
              dsimp only at oPA oPB ⊢
              have m7 := made_below w7 p1 (.slice PA p2.length pa) (.slice PB p3.length pb)
              have HMy := hid ((HMx.out.keep q7).keep m7)
              have HSy := hid ((HSx.out.keep q7).keep m7)
              have HP7 := hid ((GoodT.at HGp.out oPA oPB).below m7)
              have HX7 := hid (BoxT.made w7 p1 (.slice PA p2.length pa) (.slice PB p3.length pb))
              clear q7 m7 oPA oPB a0 a1 a2 b0 b1 b2 HMx HSx HCl
              obtain ⟨⟨a0, a1, a2⟩, ⟨b0, b1, b2⟩, _⟩ := HSy.out
              obtain ⟨g0, g1, g2⟩ := HX7.out
              by_cases hp : pe = 0
              · subst hp
                obtain ⟨x, rfl, hx⟩ := HDy.out rfl
                have HRo' := hid (HRo.out rfl)
                have HCo' := hid (HCo.out rfl)
                have hrat := HRat.out x hx
                clear HRo HCo HDy HRat
                go_wp2_with fail
                refine (HRo'.out PA pa PB pb _ HP7.out).mono ?_
                rintro e w8 ⟨q8, XA, xa, XB, xb, rfl, oXA, oXB⟩
                dsimp only at oXA oXB ⊢
                have m8 := made_below w8 (d : Int) (.slice XA rs.length xa) (.slice XB cs.length xb)
                have HMz := hid ((HMy.out.keep q8).keep m8)
                have HSz := hid ((HSy.out.keep q8).keep m8)
                have HP8 := hid ((HP7.out.below q8).below m8)
                have HX8 := hid ((HX7.out.keep q8).keep m8)
                have HR8 := hid ((GoodT.at HG0.out oXA oXB).below m8)
                have HY8 := hid (BoxT.made w8 (d : Int) (.slice XA rs.length xa) (.slice XB cs.length xb))
                clear q8 m8 oXA oXB a0 a1 a2 b0 b1 b2 g0 g1 g2 HMy HSy HP7 HX7 HRo'
                obtain ⟨⟨a0, a1, a2⟩, ⟨b0, b1, b2⟩, _⟩ := HSz.out
                obtain ⟨g0, g1, g2⟩ := HX8.out
                go_wp2_with fail
                refine (HCo'.out PA pa PB pb _ HP8.out).mono ?_
                rintro e w9 ⟨q9, rfl⟩
                have HM9 := hid (HMz.out.keep q9)
                have HS9 := hid (HSz.out.keep q9)
                have HR9 := hid (HR8.out.below q9)
                have HY9 := hid (HY8.out.keep q9)
                clear q9 a0 a1 a2 b0 b1 b2 g0 g1 g2 HMz HSz HP8 HX8 HR8 HY8 HCo'
                obtain ⟨⟨a0, a1, a2⟩, ⟨b0, b1, b2⟩, _⟩ := HS9.out
                obtain ⟨g0, g1, g2⟩ := HY9.out
                obtain ⟨e0, e1⟩ := HM9.out.2.2 x hx
                have i0 : (0 : Int) ≤ (x : Int) := by omega
                have i1 : (x : Int) < (d : Int) := by omega
                generalize M[x]?.getD 0 = y at *
                generalize opn rs cs d = oc at *
                dsimp only
                cases ho : openB rs cs (x : Int) with
                | false =>
                  rw [ho] at hrat
                  simp only [Bool.false_eq_true, if_false, Int.sub_zero] at hrat ⊢
                  subst hrat
                  go_wp2_with fail
                  refine (rsame_any _ _ _ _ _ _ _ _ _ _ _ _ _ _ _ HR9.out (HT.out.below HS9.out.2.2)).mono ?_
                  rintro e w10 ⟨q10, rfl⟩
                  rw [sameT_self]
                  have HS10 := hid (HS9.out.keep q10)
                  go_wp2
                  go_ret
                  exact ⟨HS10.out.2.2, rfl⟩
                | true =>
                  rw [ho] at hrat
                  simp only [if_true] at hrat ⊢
                  have y0 : ((0 : Int) ≤ y) = True := by simp; exact hrat.1
                  go_wp2_with fail
                  refine (rsame_any _ _ _ _ _ _ _ _ _ _ _ _ _ _ _ HR9.out (HT.out.below HS9.out.2.2)).mono ?_
                  rintro e w10 ⟨q10, rfl⟩
                  rw [sameT_self]
                  have HS10 := hid (HS9.out.keep q10)
                  go_wp2
                  go_ret
                  exact ⟨HS10.out.2.2, rfl⟩
              · have hp' : (pe != 0) = true := by simp [hp]
                clear HRo HCo HDy hp
                go_wp2
                go_ret
                exact ⟨HSy.out.2.2, rfl⟩
end Go.Proofs.Ytilolaednbcaoaa
