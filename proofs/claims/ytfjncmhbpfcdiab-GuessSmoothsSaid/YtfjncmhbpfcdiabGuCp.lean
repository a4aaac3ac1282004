/- Portions: package guess. -/
import Derived.Test.YtfjncmhbpfcdiabGuCo
set_option linter.unusedVariables false
namespace Go.Proofs.Ytfjncmhbpfcdiab
open Go.RowKit

set_option maxRecDepth 100000 in
set_option maxHeartbeats 2000000 in
theorem gQuantity_any (a : Option Addr) (l : List Int) (cap : Nat) (o u : Int) (w : World) (h : Ints w a l) (hl : CountsOk l) (ho : 0 ≤ o ∧ o ≤ 1000) (hu : 0 ≤ u ∧ u ≤ 1000) :
  Calls Try.prog 24 #[.slice a l.length cap, .int .i64 o, .int .i64 u] w (NumG w (qTo l o u l.length : Nat)) := by
  have hlen := hl.len
  have HC := hid (fun q (hq : q ≤ 101) => gCost_any a l cap o u q w h hl ho hu hq)
  have HB := hid (fun q (hq : q ≤ 101) => costTo_bd hl o u q l.length ho hu hq (Nat.le_refl _))
  have HQ := hid (fun k => qTo_le l o u k)
  have HS := hid (show ∀ k, qTo l o u (k + 1) = if costL l o u k < costL l o u (qTo l o u k) then k else qTo l o u k from fun k => rfl)
  clear h hl
  go_enter Try.func24, Try.ntmps24
  go_wp2
  go_loop [7, 11] (fun t i => ∃ (k : Nat), k ≤ l.length ∧ i = .int .i64 k ∧ t = .int .i64 (qTo l o u k : Nat)) (fun _ i => l.length - (intOf i).toNat)
  case atStart => exact ⟨0, Nat.zero_le _, rfl, rfl⟩
  case round =>
    obtain ⟨k, hk, rfl, rfl⟩ := hrel
    by_cases hlt : k < l.length
    · have hqk := HQ.out k
      have HC1 := hid (HC.out k (by omega))
      have HC2 := hid (HC.out (qTo l o u k) (by omega))
      have HN := hid (HS.out k)
      have hb1 := HB.out k (by omega)
      have hb2 := HB.out (qTo l o u k) (by omega)
      rw [show costTo l o u k l.length = costL l o u k from rfl] at hb1
      rw [show costTo l o u (qTo l o u k) l.length = costL l o u (qTo l o u k) from rfl] at hb2
      generalize hqe : qTo l o u k = bq at *
      generalize costL l o u k = x at *
      generalize costL l o u bq = y at *
      clear hqe
      by_cases hxy : x < y
      · have HN2 := hid ((HN.out).trans (if_pos hxy))
        clear HN
        go_wp2_with fail
        refine HC1.out.mono ?_
        rintro e w1 ⟨rfl, rfl⟩
        go_wp2_with fail
        refine HC2.out.mono ?_
        rintro e w1 ⟨rfl, rfl⟩
        go_wp2
        go_round
        case rel => exact ⟨k + 1, by omega, by go_num, by rw [HN2.out]⟩
        case measure => simp [intOf]; omega
      · have HN2 := hid ((HN.out).trans (if_neg hxy))
        clear HN
        go_wp2_with fail
        refine HC1.out.mono ?_
        rintro e w1 ⟨rfl, rfl⟩
        go_wp2_with fail
        refine HC2.out.mono ?_
        rintro e w1 ⟨rfl, rfl⟩
        go_wp2
        go_round
        case rel => exact ⟨k + 1, by omega, by go_num, by rw [HN2.out]⟩
        case measure => simp [intOf]; omega
    · obtain rfl : k = l.length := by omega
      go_wp2
      go_ret
      exact ⟨rfl, rfl⟩

set_option maxRecDepth 100000 in
set_option maxHeartbeats 2000000 in
theorem gCounts_any (a : Option Addr) (l : List Int) (cap : Nat) (w : World) (h : Ints w a l) :
  Calls Try.prog 26 #[.slice a l.length cap] w (SaysG w (countsB l)) := by
  have hlen := h.len
  have HH := hid h
  have HC := hid (show countsB l = (allC 10000 l && someC l && decide (l.length ≤ 101)) from rfl)
  have HW := hid (fun x W => gWithin_any x 0 10000 W)
  clear h
  go_enter Try.func26, Try.ntmps26
  go_wp2
  go_loop [3, 8] (fun s i => ∃ (k : Nat) (sm : Bool), k ≤ l.length ∧ i = .int .i64 k ∧ s = .bool sm ∧ Hid (allC 10000 l = allC 10000 (l.drop k)) ∧ Hid (someC l = (sm || someC (l.drop k)))) (fun _ i => l.length - (intOf i).toNat)
  case atStart => exact ⟨0, false, Nat.zero_le _, rfl, rfl, rfl, rfl⟩
  case round =>
    obtain ⟨k, sm, hk, rfl, rfl, HA, HS⟩ := hrel
    by_cases hlt : k < l.length
    · rcases HH.out.at_ with e | ⟨b, off, rfl, hc⟩
      · rw [e] at hlt; simp at hlt
      have c0 := hc k hlt
      have HDa := hid (allC_drop 10000 l k hlt)
      have HDs := hid (someC_drop l k hlt)
      clear hc
      rw [show l[k]?.getD 0 = cAt l k from rfl] at c0
      have HWk := hid (fun W => HW.out (cAt l k) W)
      have HI := hid (show cinB (cAt l k) 0 10000 = decide (0 ≤ cAt l k ∧ cAt l k ≤ 10000) from rfl)
      generalize cAt l k = x at *
      by_cases hx : 0 ≤ x ∧ x ≤ 10000
      · have HI2 := hid ((HI.out).trans (decide_eq_true hx))
        rw [HI2.out] at HWk
        have HA2 := hid (show allC 10000 l = allC 10000 (l.drop (k + 1)) by rw [HA.out, HDa.out, decide_eq_true hx, Bool.true_and])
        obtain ⟨hx1, hx2⟩ := hx
        clear HI HI2 HA HDa
        cases sm with
        | true =>
          have HS2 := hid (show someC l = (true || someC (l.drop (k + 1))) by rw [HS.out]; rfl)
          go_wp2_with fail
          refine (HWk.out _).mono ?_
          rintro e w1 ⟨rfl, rfl⟩
          go_wp2
          go_round
          case rel => exact ⟨k + 1, true, by omega, by go_num, rfl, HA2, HS2⟩
          case measure => simp [intOf]; omega
        | false =>
          have HS2 := hid (show someC l = (decide (0 < x) || someC (l.drop (k + 1))) by rw [HS.out, HDs.out]; rfl)
          go_wp2_with fail
          refine (HWk.out _).mono ?_
          rintro e w1 ⟨rfl, rfl⟩
          go_wp2
          go_round
          case rel => exact ⟨k + 1, decide (0 < x), by omega, by go_num, rfl, HA2, HS2⟩
          case measure => simp [intOf]; omega
      · have HI2 := hid ((HI.out).trans (decide_eq_false hx))
        rw [HI2.out] at HWk
        have HF := hid (show countsB l = false by rw [HC.out, HA.out, HDa.out, decide_eq_false hx]; simp)
        clear HI HI2 HA HDa HDs HS hx
        go_wp2_with fail
        refine (HWk.out _).mono ?_
        rintro e w1 ⟨rfl, rfl⟩
        go_wp2
        go_ret
        exact ⟨rfl, by rw [HF.out]; rfl⟩
    · obtain rfl : k = l.length := by omega
      have hA2 : allC 10000 l = true := by rw [HA.out, List.drop_length]; rfl
      have hS2 : someC l = sm := by rw [HS.out, List.drop_length]; simp [someC]
      cases sm with
      | false =>
        have HF := hid (show countsB l = false by rw [HC.out, hS2]; simp)
        clear hA2 hS2
        go_wp2
        go_ret
        exact ⟨rfl, by rw [HF.out]; rfl⟩
      | true =>
        have HF := hid (show countsB l = decide (l.length ≤ 101) by rw [HC.out, hA2, hS2]; simp)
        clear hA2 hS2
        by_cases h1 : l.length ≤ 101
        · have h1' : (l.length : Int) ≤ 101 := by omega
          have HF2 := hid ((HF.out).trans (decide_eq_true h1))
          clear h1
          go_wp2
          go_ret
          exact ⟨rfl, by rw [HF2.out]; first | rfl | simp⟩
        · have h1' : (101 : Int) < (l.length : Int) := by omega
          have h1'' : decide ((l.length : Int) ≤ 101) = false := by rw [decide_eq_false_iff_not]; omega
          have HF2 := hid ((HF.out).trans (decide_eq_false h1))
          clear h1
          go_wp2
          go_ret
          exact ⟨rfl, by rw [HF2.out]; first | rfl | (simp; omega)⟩

set_option maxHeartbeats 2000000 in
theorem gPort_any (a : Option Addr) (l : List Int) (cap : Nat) (o u q : Int) (w : World) (h : Ints w a l) :
  Calls Try.prog 23 #[.slice a l.length cap, .int .i64 o, .int .i64 u, .int .i64 q] w (NumG w (portE l o u q)) := by
  have hlen := h.len
  have HC := hid (gCounts_any a l cap w h)
  have HE := hid (show portE l o u q = if countsB l = true ∧ cinB o 0 1000 = true ∧ cinB u 0 1000 = true ∧ cinB q 0 100 = true then 0 else 1 from rfl)
  have HW := hid (fun x hi W => gWithin_any x 0 hi W)
  clear h
  cases hc : countsB l with
  | false =>
    have HF := hid (show portE l o u q = 1 by rw [HE.out, hc]; simp)
    rw [hc] at HC
    clear hc HE
    go_enter Try.func23, Try.ntmps23
    go_wp2_with fail
    refine HC.out.mono ?_
    rintro e w1 ⟨rfl, rfl⟩
    go_wp2
    go_ret
    exact ⟨rfl, by rw [HF.out]; rfl⟩
  | true =>
    have HO := hid (fun W => HW.out o 1000 W)
    cases ho : cinB o 0 1000 with
    | false =>
      have HF := hid (show portE l o u q = 1 by rw [HE.out, ho]; simp)
      rw [hc] at HC
      rw [ho] at HO
      clear hc ho HE
      go_enter Try.func23, Try.ntmps23
      go_wp2_with fail
      refine HC.out.mono ?_
      rintro e w1 ⟨rfl, rfl⟩
      go_wp2_with fail
      refine (HO.out _).mono ?_
      rintro e w1 ⟨rfl, rfl⟩
      go_wp2
      go_ret
      exact ⟨rfl, by rw [HF.out]; rfl⟩
    | true =>
      have HU := hid (fun W => HW.out u 1000 W)
      cases hu : cinB u 0 1000 with
      | false =>
        have HF := hid (show portE l o u q = 1 by rw [HE.out, hu]; simp)
        rw [hc] at HC
        rw [ho] at HO
        rw [hu] at HU
        clear hc ho hu HE
        go_enter Try.func23, Try.ntmps23
        go_wp2_with fail
        refine HC.out.mono ?_
        rintro e w1 ⟨rfl, rfl⟩
        go_wp2_with fail
        refine (HO.out _).mono ?_
        rintro e w1 ⟨rfl, rfl⟩
        go_wp2_with fail
        refine (HU.out _).mono ?_
        rintro e w1 ⟨rfl, rfl⟩
        go_wp2
        go_ret
        exact ⟨rfl, by rw [HF.out]; rfl⟩
      | true =>
        have HQ := hid (fun W => HW.out q 100 W)
        cases hq : cinB q 0 100
        all_goals
          have HF := hid (HE.out)
          simp only [hc, ho, hu, hq, and_self, if_true, and_false, Bool.false_eq_true, if_false] at HF
          have HF := hid HF.out
          rw [hc] at HC
          rw [ho] at HO
          rw [hu] at HU
          rw [hq] at HQ
          clear hc ho hu hq HE
          go_enter Try.func23, Try.ntmps23
          go_wp2_with fail
          refine HC.out.mono ?_
          rintro e w1 ⟨rfl, rfl⟩
          go_wp2_with fail
          refine (HO.out _).mono ?_
          rintro e w1 ⟨rfl, rfl⟩
          go_wp2_with fail
          refine (HU.out _).mono ?_
          rintro e w1 ⟨rfl, rfl⟩
          go_wp2_with fail
          refine (HQ.out _).mono ?_
          rintro e w1 ⟨rfl, rfl⟩
          go_wp2
          go_ret
          exact ⟨rfl, by rw [HF.out]; rfl⟩

def PairG (w : World) (p : Int × Int) (en : Ending) (w' : World) : Prop := w = w' ∧ en = .returned (.tuple #[.int .i64 p.1, .int .i64 p.2])
def BoolG (w : World) (p : Bool × Int) (en : Ending) (w' : World) : Prop := w = w' ∧ en = .returned (.tuple #[.bool p.1, .int .i64 p.2])
set_option maxHeartbeats 2000000 in
theorem gQntP_any (a : Option Addr) (l : List Int) (cap : Nat) (o u : Int) (w : World) (h : Ints w a l) :
  Calls Try.prog 17 #[.slice a l.length cap, .int .i64 o, .int .i64 u] w (PairG w (qntV l o u)) := by
  have hlen := h.len
  have HP := hid (gPort_any a l cap o u 0 w h)
  have HE := hid (show qntV l o u = if portE l o u 0 = 0 then (((qTo l o u l.length : Nat) : Int), 0) else (0, portE l o u 0) from rfl)
  by_cases h0 : portE l o u 0 = 0
  · obtain ⟨hl, ho, hu, hq⟩ := portE_ok h0
    have HE2 := hid ((HE.out).trans (if_pos h0))
    rw [h0] at HP
    have HC := hid (gQuantity_any a l cap o u w h hl ho hu)
    clear h h0 hl ho hu HE
    go_enter Try.func17, Try.ntmps17
    go_wp2_with fail
    refine HP.out.mono ?_
    rintro e w1 ⟨rfl, rfl⟩
    go_wp2_with fail
    refine HC.out.mono ?_
    rintro e w1 ⟨rfl, rfl⟩
    go_wp2
    go_ret2
    exact ⟨rfl, by rw [HE2.out]; rfl⟩
  · have HE2 := hid ((HE.out).trans (if_neg h0))
    have h1 : (portE l o u 0 != 0) = true := by simp [h0]
    clear h h0 HE
    generalize portE l o u 0 = v at *
    go_enter Try.func17, Try.ntmps17
    go_wp2_with fail
    refine HP.out.mono ?_
    rintro e w1 ⟨rfl, rfl⟩
    go_wp2
    go_ret2
    exact ⟨rfl, by rw [HE2.out]; rfl⟩
end Go.Proofs.Ytfjncmhbpfcdiab
