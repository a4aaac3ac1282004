/- The document's own portions. -/
import Derived.Test.YtfjncmhbpfcdiaaGuCp
set_option linter.unusedVariables false
namespace Go.Proofs.Ytfjncmhbpfcdiaa
open Go.RowKit

theorem prod3_bd {n o x : Int} (h : 0 ≤ n ∧ n ≤ 10000) (ho : 0 ≤ o ∧ o ≤ 1000) (hx : 0 ≤ x ∧ x ≤ 101) : (0 ≤ n * o ∧ n * o ≤ 10000000) ∧ (0 ≤ n * o * x ∧ n * o * x ≤ 1010000000) := by
  have h1 : 0 ≤ n * o := Int.mul_nonneg h.1 ho.1
  have h2 : n * o ≤ 10000000 := Int.le_trans (Int.mul_le_mul_of_nonneg_right h.2 ho.1) (by omega)
  exact ⟨⟨h1, h2⟩, Int.mul_nonneg h1 hx.1, Int.le_trans (Int.mul_le_mul_of_nonneg_right h2 hx.1) (by omega)⟩
set_option maxRecDepth 100000 in
set_option maxHeartbeats 2000000 in
theorem grCost_any (a : Option Addr) (l : List Int) (cap : Nat) (o u : Int) (q : Nat) (w : World) (h : Ints w a l) (hl : CountsOk l) (ho : 0 ≤ o ∧ o ≤ 1000) (hu : 0 ≤ u ∧ u ≤ 1000) (hq : q ≤ 101) :
  Calls Try.prog 58 #[.slice a l.length cap, .int .i64 o, .int .i64 u, .int .i64 (q : Int)] w (NumG w (costL l o u q)) := by
  have hlen := hl.len
  have HH := hid h
  have HA := hid hl.all
  have HB := hid (fun k hk => costTo_bd hl o u q k ho hu hq hk)
  have HC := hid (show costL l o u q = costTo l o u q l.length from rfl)
  have HS := hid (show ∀ k, costTo l o u q (k + 1) = costTo l o u q k + cAt l k * oneC o u q k from fun k => rfl)
  have HO := hid ho
  have HU := hid hu
  clear h hl ho hu
  go_enter Try.func58, Try.ntmps58
  go_wp2
  go_loop [9, 10] (fun t i => ∃ (k : Nat), k ≤ l.length ∧ i = .int .i64 k ∧ t = .int .i64 (costTo l o u q k)) (fun _ i => l.length - (intOf i).toNat)
  case atStart => exact ⟨0, Nat.zero_le _, rfl, rfl⟩
  case round =>
    obtain ⟨k, hk, rfl, rfl⟩ := hrel
    by_cases hlt : k < l.length
    · rcases HH.out.at_ with e | ⟨b, off, rfl, hc⟩
      · rw [e] at hlt; simp at hlt
      have c0 := hc k hlt
      have hn := HA.out k hlt
      have hb1 := HB.out k hk
      have HN := hid (HS.out k)
      clear hc
      rw [show l[k]?.getD 0 = cAt l k from rfl] at c0
      generalize cAt l k = n at *
      generalize costTo l o u q k = s at *
      by_cases hkq : k < q
      · rw [one_yes (Nat.le_of_lt hkq), ← Int.mul_assoc] at HN
        have hx2 : 0 ≤ (q : Int) - (k : Int) ∧ (q : Int) - (k : Int) ≤ 101 := by omega
        obtain ⟨hy1, hy2⟩ := prod3_bd hn HO.out hx2
        have hkq' : (k : Int) < (q : Int) := by omega
        have hd : decide (k < q) = true := decide_eq_true hkq
        clear hkq
        generalize hx : (q : Int) - (k : Int) = x at *
        go_wp2
        go_round
        case rel => exact ⟨k + 1, by omega, by go_num, by rw [HN.out]⟩
        case measure => simp [intOf]; omega
      · have hx2 : 0 ≤ (k : Int) - (q : Int) ∧ (k : Int) - (q : Int) ≤ 101 := by omega
        obtain ⟨hy1, hy2⟩ := prod3_bd hn HU.out hx2
        have HN2 := hid (show costTo l o u q (k + 1) = s + n * u * ((k : Int) - (q : Int)) by
          rw [HN.out]
          by_cases hz : k ≤ q
          · rw [one_yes hz, show (k : Int) - (q : Int) = 0 by omega, show (q : Int) - (k : Int) = 0 by omega]; simp
          · rw [one_no hz, Int.mul_assoc])
        have hkq' : (q : Int) ≤ (k : Int) := by omega
        have hd : decide (k < q) = false := decide_eq_false hkq
        clear hkq HN
        generalize hx : (k : Int) - (q : Int) = x at *
        go_wp2
        go_round
        case rel => exact ⟨k + 1, by omega, by go_num, by rw [HN2.out]⟩
        case measure => simp [intOf]; omega
    · obtain rfl : k = l.length := by omega
      go_wp2
      go_ret
      exact ⟨rfl, by rw [HC.out]; rfl⟩

set_option maxRecDepth 100000 in
set_option maxHeartbeats 2000000 in
theorem grQuantity_any (a : Option Addr) (l : List Int) (cap : Nat) (o u : Int) (w : World) (h : Ints w a l) (hl : CountsOk l) (ho : 0 ≤ o ∧ o ≤ 1000) (hu : 0 ≤ u ∧ u ≤ 1000) :
  Calls Try.prog 61 #[.slice a l.length cap, .int .i64 o, .int .i64 u] w (NumG w (qTo l o u l.length : Nat)) := by
  have hlen := hl.len
  have hpos := hl.pos
  have HC := hid (fun q (hq : q ≤ 101) => grCost_any a l cap o u q w h hl ho hu hq)
  have HB := hid (fun q (hq : q ≤ 101) => costTo_bd hl o u q l.length ho hu hq (Nat.le_refl _))
  have HQ := hid (fun k => qTo_le l o u k)
  have HQ1 := hid (qTo_one l o u)
  have HM := hid (qTo_more hl o u ho.1 hu.1)
  have HQl := hid (fun k (hk : 0 < k) => qTo_lt l o u k hk)
  have HS := hid (show ∀ k, qTo l o u (k + 1) = if costL l o u k < costL l o u (qTo l o u k) then k else qTo l o u k from fun k => rfl)
  clear h hl
  go_enter Try.func61, Try.ntmps61
  go_wp2
  go_loop [7, 8] (fun t i => ∃ (k : Nat), 1 ≤ k ∧ k ≤ l.length + 1 ∧ i = .int .i64 k ∧ t = .int .i64 (qTo l o u k : Nat)) (fun _ i => l.length + 1 - (intOf i).toNat)
  case atStart => exact ⟨1, Nat.le_refl _, by omega, rfl, by rw [HQ1.out]; rfl⟩
  case round =>
    obtain ⟨k, hk1, hk, rfl, rfl⟩ := hrel
    by_cases hlt : k ≤ l.length
    · have hqk := HQl.out k hk1
      have HC1 := hid (HC.out k (by omega))
      have HC2 := hid (HC.out (qTo l o u k) (by omega))
      have HN := hid (HS.out k)
      have hb1 := HB.out k (by omega)
      have hb2 := HB.out (qTo l o u k) (by omega)
      rw [show costTo l o u k l.length = costL l o u k from rfl] at hb1
      rw [show costTo l o u (qTo l o u k) l.length = costL l o u (qTo l o u k) from rfl] at hb2
      have hdl : decide (k ≤ l.length) = true := decide_eq_true hlt
      generalize hqe : qTo l o u k = bq at *
      generalize costL l o u k = x at *
      generalize costL l o u bq = y at *
      clear hqe
      by_cases hxy : x < y
      · have HN2 := hid ((HN.out).trans (if_pos hxy))
        clear HN
        go_wp2_with fail
        refine HC1.out.mono ?_
        rintro e w1 ⟨rfl, rfl⟩
        go_wp2_with fail
        refine HC2.out.mono ?_
        rintro e w1 ⟨rfl, rfl⟩
        go_wp2
        go_round
        case rel => exact ⟨k + 1, by omega, by omega, by go_num, by rw [HN2.out]⟩
        case measure => simp [intOf]; omega
      · have HN2 := hid ((HN.out).trans (if_neg hxy))
        clear HN
        go_wp2_with fail
        refine HC1.out.mono ?_
        rintro e w1 ⟨rfl, rfl⟩
        go_wp2_with fail
        refine HC2.out.mono ?_
        rintro e w1 ⟨rfl, rfl⟩
        go_wp2
        go_round
        case rel => exact ⟨k + 1, by omega, by omega, by go_num, by rw [HN2.out]⟩
        case measure => simp [intOf]; omega
    · have hke : k = l.length + 1 := by omega
      have hdl : decide (k ≤ l.length) = false := decide_eq_false hlt
      have hdl2 : (l.length : Int) < (k : Int) := by omega
      have HE := hid hke
      have HQe := hid (show qTo l o u k = qTo l o u l.length by rw [hke]; exact HM.out)
      clear hke
      go_wp2
      go_ret
      exact ⟨rfl, by rw [← HQe.out]; rfl⟩

/-- The error of counts and two costs. -/
def ctE (l : List Int) (o u : Int) : Int := if countsB l = true ∧ cinB o 0 1000 = true ∧ cinB u 0 1000 = true then 0 else 1
set_option maxRecDepth 100000 in
set_option maxHeartbeats 2000000 in
theorem grCounts_any (a : Option Addr) (l : List Int) (cap : Nat) (o u : Int) (w : World) (h : Ints w a l) :
  Calls Try.prog 60 #[.slice a l.length cap, .int .i64 o, .int .i64 u] w (NumG w (ctE l o u)) := by
  have hlen := h.len
  have HE := hid (show ctE l o u = if countsB l = true ∧ cinB o 0 1000 = true ∧ cinB u 0 1000 = true then 0 else 1 from rfl)
  have HC := hid (show countsB l = (allC 10000 l && someC l && decide (l.length ≤ 101)) from rfl)
  by_cases hb : 1 ≤ l.length
  case neg =>
    have hb0 : (l.length : Int) < 1 := by omega
    have hp : countsB l = false := by rw [show l = [] from List.eq_nil_of_length_eq_zero (by omega)]; rfl
    have HF := hid (show ctE l o u = 1 by rw [HE.out, hp]; simp)
    clear hp
    clear hb h HE HC
    go_enter Try.func60, Try.ntmps60
    go_wp2
    go_ret
    exact ⟨rfl, by rw [HF.out]; rfl⟩
  have hc0 : (1 : Int) ≤ (l.length : Int) := by omega
  clear hb
  by_cases hb : l.length ≤ 101
  case neg =>
    have hb1 : (101 : Int) < (l.length : Int) := by omega
    have HF := hid (show ctE l o u = 1 by rw [HE.out, HC.out, decide_eq_false hb]; simp)
    clear hb h HE HC
    go_enter Try.func60, Try.ntmps60
    go_wp2
    go_ret
    exact ⟨rfl, by rw [HF.out]; rfl⟩
  have hc1 : (l.length : Int) ≤ 101 := by omega
  clear hb
  by_cases hb : 0 ≤ o
  case neg =>
    have hb2 : o < 0 := by omega
    have HF := hid (show ctE l o u = 1 by rw [HE.out, show cinB o 0 1000 = false by simp [cinB]; omega]; simp)
    clear hb h HE HC
    go_enter Try.func60, Try.ntmps60
    go_wp2
    go_ret
    exact ⟨rfl, by rw [HF.out]; rfl⟩
  have hc2 : 0 ≤ o := by omega
  clear hb
  by_cases hb : o ≤ 1000
  case neg =>
    have hb3 : 1000 < o := by omega
    have HF := hid (show ctE l o u = 1 by rw [HE.out, show cinB o 0 1000 = false by simp [cinB]; omega]; simp)
    clear hb h HE HC
    go_enter Try.func60, Try.ntmps60
    go_wp2
    go_ret
    exact ⟨rfl, by rw [HF.out]; rfl⟩
  have hc3 : o ≤ 1000 := by omega
  clear hb
  by_cases hb : 0 ≤ u
  case neg =>
    have hb4 : u < 0 := by omega
    have HF := hid (show ctE l o u = 1 by rw [HE.out, show cinB u 0 1000 = false by simp [cinB]; omega]; simp)
    clear hb h HE HC
    go_enter Try.func60, Try.ntmps60
    go_wp2
    go_ret
    exact ⟨rfl, by rw [HF.out]; rfl⟩
  have hc4 : 0 ≤ u := by omega
  clear hb
  by_cases hb : u ≤ 1000
  case neg =>
    have hb5 : 1000 < u := by omega
    have HF := hid (show ctE l o u = 1 by rw [HE.out, show cinB u 0 1000 = false by simp [cinB]; omega]; simp)
    clear hb h HE HC
    go_enter Try.func60, Try.ntmps60
    go_wp2
    go_ret
    exact ⟨rfl, by rw [HF.out]; rfl⟩
  have hc5 : u ≤ 1000 := by omega
  clear hb
  have HE2 := hid (show ctE l o u = if countsB l = true then 0 else 1 by
    rw [HE.out]
    have e1 : cinB o 0 1000 = true := by simp [cinB]; omega
    have e2 : cinB u 0 1000 = true := by simp [cinB]; omega
    rw [e1, e2]; simp)
  have HH := hid h
  have HZ := hid (fun h => sumTo_zero (l := l) h)
  have HSb := hid (fun (hA : ∀ i, i < l.length → 0 ≤ cAt l i ∧ cAt l i ≤ 10000) k hk => sumTo_bd hA k hk)
  have HSn := hid (show ∀ k, sumTo l (k + 1) = sumTo l k + cAt l k from fun k => rfl)
  clear h HE
  go_enter Try.func60, Try.ntmps60
  go_wp2
  go_loop [7, 8] (fun s i => ∃ (k : Nat), k ≤ l.length ∧ i = .int .i64 k ∧ s = .int .i64 (sumTo l k) ∧ (0 ≤ sumTo l k ∧ sumTo l k ≤ 10000 * (k : Int)) ∧ Hid (allC 10000 l = allC 10000 (l.drop k))) (fun _ i => l.length - (intOf i).toNat)
  case atStart => exact ⟨0, Nat.zero_le _, rfl, rfl, ⟨Int.le_refl _, Int.le_refl _⟩, rfl⟩
  case round =>
    obtain ⟨k, hk, rfl, rfl, hs, HA⟩ := hrel
    by_cases hlt : k < l.length
    · rcases HH.out.at_ with e | ⟨b, off, rfl, hc⟩
      · rw [e] at hlt; simp at hlt
      have c0' := hc k hlt
      have HDa := hid (allC_drop 10000 l k hlt)
      have HN := hid (HSn.out k)
      clear hc
      rw [show l[k]?.getD 0 = cAt l k from rfl] at c0'
      generalize cAt l k = x at *
      generalize sumTo l k = s at *
      by_cases hx1 : 0 ≤ x
      · by_cases hx2 : x ≤ 10000
        · have HA2 := hid (show allC 10000 l = allC 10000 (l.drop (k + 1)) by rw [HA.out, HDa.out, decide_eq_true ⟨hx1, hx2⟩, Bool.true_and])
          clear HA HDa
          go_wp2
          go_round
          case rel => exact ⟨k + 1, by omega, by go_num, by rw [HN.out], by rw [HN.out]; omega, HA2⟩
          case measure => simp [intOf]; omega
        · have hx2' : 10000 < x := by omega
          have HF := hid (show ctE l o u = 1 by rw [HE2.out, HC.out, HA.out, HDa.out, decide_eq_false (fun h => hx2 h.2)]; simp)
          clear HA HDa hx2
          go_wp2
          go_ret
          exact ⟨rfl, by rw [HF.out]; rfl⟩
      · have hx1' : x < 0 := by omega
        have HF := hid (show ctE l o u = 1 by rw [HE2.out, HC.out, HA.out, HDa.out, decide_eq_false (fun h => hx1 h.1)]; simp)
        clear HA HDa hx1
        go_wp2
        go_ret
        exact ⟨rfl, by rw [HF.out]; rfl⟩
    · obtain rfl : k = l.length := by omega
      have hA2 : allC 10000 l = true := by rw [HA.out, List.drop_length]; rfl
      have hz := HZ.out (allC_at hA2)
      by_cases h0 : sumTo l l.length = 0
      · have HF := hid (show ctE l o u = 1 by rw [HE2.out, HC.out, hz.1 h0]; simp)
        have h9 : ((sumTo l l.length) == 0) = true := by rw [h0]; rfl
        clear hA2 hz h0 hs
        generalize sumTo l l.length = s at *
        go_wp2
        go_ret
        exact ⟨rfl, by rw [HF.out]; rfl⟩
      · have hsm : someC l = true := by
          cases hh : someC l with
          | true => rfl
          | false => exact absurd (hz.2 hh) h0
        have HF := hid (show ctE l o u = 0 by rw [HE2.out, HC.out, hA2, hsm, decide_eq_true (by omega)]; rfl)
        have h9 : ((sumTo l l.length) == 0) = false := by rw [beq_eq_false_iff_ne]; exact h0
        clear hA2 hz h0 hs hsm
        generalize sumTo l l.length = s at *
        go_wp2
        go_ret
        exact ⟨rfl, by rw [HF.out]; rfl⟩

set_option maxHeartbeats 2000000 in
theorem grPort_any (a : Option Addr) (l : List Int) (cap : Nat) (o u q : Int) (w : World) (h : Ints w a l) :
  Calls Try.prog 57 #[.slice a l.length cap, .int .i64 o, .int .i64 u, .int .i64 q] w (NumG w (portE l o u q)) := by
  have hlen := h.len
  have HC := hid (grCounts_any a l cap o u w h)
  have HE := hid (show portE l o u q = if countsB l = true ∧ cinB o 0 1000 = true ∧ cinB u 0 1000 = true ∧ cinB q 0 100 = true then 0 else 1 from rfl)
  have HD := hid (show ctE l o u = if countsB l = true ∧ cinB o 0 1000 = true ∧ cinB u 0 1000 = true then 0 else 1 from rfl)
  clear h
  by_cases h0 : countsB l = true ∧ cinB o 0 1000 = true ∧ cinB u 0 1000 = true
  · have hd := (HD.out).trans (if_pos h0)
    rw [hd] at HC
    by_cases h1 : 0 ≤ q
    · by_cases h2 : q ≤ 100
      · have HF := hid (show portE l o u q = 0 by rw [HE.out, if_pos ⟨h0.1, h0.2.1, h0.2.2, by simp [cinB]; omega⟩])
        clear h0 hd HE HD
        go_enter Try.func57, Try.ntmps57
        go_wp2_with fail
        refine HC.out.mono ?_
        rintro e w1 ⟨rfl, rfl⟩
        go_wp2
        go_ret
        exact ⟨rfl, by rw [HF.out]; rfl⟩
      · have h2' : 100 < q := by omega
        have HF := hid (show portE l o u q = 1 by rw [HE.out, if_neg (fun h => by have := h.2.2.2; simp [cinB] at this; omega)])
        clear h0 hd HE HD h2
        go_enter Try.func57, Try.ntmps57
        go_wp2_with fail
        refine HC.out.mono ?_
        rintro e w1 ⟨rfl, rfl⟩
        go_wp2
        go_ret
        exact ⟨rfl, by rw [HF.out]; rfl⟩
    · have h1' : q < 0 := by omega
      have HF := hid (show portE l o u q = 1 by rw [HE.out, if_neg (fun h => by have := h.2.2.2; simp [cinB] at this; omega)])
      clear h0 hd HE HD h1
      go_enter Try.func57, Try.ntmps57
      go_wp2_with fail
      refine HC.out.mono ?_
      rintro e w1 ⟨rfl, rfl⟩
      go_wp2
      go_ret
      exact ⟨rfl, by rw [HF.out]; rfl⟩
  · have hd := (HD.out).trans (if_neg h0)
    rw [hd] at HC
    have HF := hid (show portE l o u q = 1 by rw [HE.out, if_neg (fun h => h0 ⟨h.1, h.2.1, h.2.2.1⟩)])
    clear h0 hd HE HD
    go_enter Try.func57, Try.ntmps57
    go_wp2_with fail
    refine HC.out.mono ?_
    rintro e w1 ⟨rfl, rfl⟩
    go_wp2
    go_ret
    exact ⟨rfl, by rw [HF.out]; rfl⟩
set_option maxHeartbeats 2000000 in
theorem grCostP_any (a : Option Addr) (l : List Int) (cap : Nat) (o u q : Int) (w : World) (h : Ints w a l) :
  Calls Try.prog 37 #[.slice a l.length cap, .int .i64 o, .int .i64 u, .int .i64 q] w (PairG w (costV l o u q)) := by
  have hlen := h.len
  have HP := hid (grPort_any a l cap o u q w h)
  have HE := hid (show costV l o u q = if portE l o u q = 0 then (costL l o u q.toNat, 0) else (0, portE l o u q) from rfl)
  by_cases h0 : portE l o u q = 0
  · obtain ⟨hl, ho, hu, hq⟩ := portE_ok h0
    obtain ⟨n, rfl⟩ := Int.eq_ofNat_of_zero_le hq.1
    have HE2 := hid ((HE.out).trans (if_pos h0))
    rw [h0] at HP
    have HC := hid (grCost_any a l cap o u n w h hl ho hu (by omega))
    clear h h0 hl ho hu HE
    go_enter Try.func37, Try.ntmps37
    go_wp2_with fail
    refine HP.out.mono ?_
    rintro e w1 ⟨rfl, rfl⟩
    go_wp2_with fail
    refine HC.out.mono ?_
    rintro e w1 ⟨rfl, rfl⟩
    go_wp2
    go_ret2
    exact ⟨rfl, by rw [HE2.out]; rfl⟩
  · have HE2 := hid ((HE.out).trans (if_neg h0))
    have h1 : (portE l o u q != 0) = true := by simp [h0]
    clear h h0 HE
    generalize portE l o u q = v at *
    go_enter Try.func37, Try.ntmps37
    go_wp2_with fail
    refine HP.out.mono ?_
    rintro e w1 ⟨rfl, rfl⟩
    go_wp2
    go_ret2
    exact ⟨rfl, by rw [HE2.out]; rfl⟩
set_option maxHeartbeats 2000000 in
theorem grMrgP_any (a : Option Addr) (l : List Int) (cap : Nat) (o u q : Int) (w : World) (h : Ints w a l) :
  Calls Try.prog 39 #[.slice a l.length cap, .int .i64 o, .int .i64 u, .int .i64 q] w (PairG w (mrgV l o u q)) := by
  have hlen := h.len
  have HP := hid (grPort_any a l cap o u q w h)
  have HE := hid (show mrgV l o u q = if portE l o u q = 0 then (mrgL l o u q.toNat, 0) else (0, portE l o u q) from rfl)
  by_cases h0 : portE l o u q = 0
  · obtain ⟨hl, ho, hu, hq⟩ := portE_ok h0
    obtain ⟨n, rfl⟩ := Int.eq_ofNat_of_zero_le hq.1
    have HE2 := hid ((HE.out).trans (if_pos h0))
    rw [h0] at HP
    have HC := hid (grCost_any a l cap o u n w h hl ho hu (by omega))
    have HC1 := hid (grCost_any a l cap o u (n + 1) w h hl ho hu (by omega))
    rw [Int.natCast_succ] at HC1
    have hb1 : 0 ≤ costL l o u n ∧ costL l o u n ≤ 1010000000 * (l.length : Int) := costTo_bd hl o u n l.length ho hu (by omega) (Nat.le_refl _)
    have hb2 : 0 ≤ costL l o u (n + 1) ∧ costL l o u (n + 1) ≤ 1010000000 * (l.length : Int) := costTo_bd hl o u (n + 1) l.length ho hu (by omega) (Nat.le_refl _)
    have hl101 := hl.len
    have HM := hid (show mrgL l o u n = costL l o u (n + 1) - costL l o u n from rfl)
    generalize costL l o u n = x at *
    generalize costL l o u (n + 1) = y at *
    clear h h0 hl ho hu HE
    go_enter Try.func39, Try.ntmps39
    go_wp2_with fail
    refine HP.out.mono ?_
    rintro e w1 ⟨rfl, rfl⟩
    go_wp2_with fail
    refine HC1.out.mono ?_
    rintro e w1 ⟨rfl, rfl⟩
    go_wp2_with fail
    refine HC.out.mono ?_
    rintro e w1 ⟨rfl, rfl⟩
    go_wp2
    go_ret2
    exact ⟨rfl, by rw [HE2.out, Int.toNat_natCast, HM.out]; rfl⟩
  · have HE2 := hid ((HE.out).trans (if_neg h0))
    have h1 : (portE l o u q != 0) = true := by simp [h0]
    clear h h0 HE
    generalize portE l o u q = v at *
    go_enter Try.func39, Try.ntmps39
    go_wp2_with fail
    refine HP.out.mono ?_
    rintro e w1 ⟨rfl, rfl⟩
    go_wp2
    go_ret2
    exact ⟨rfl, by rw [HE2.out]; rfl⟩
set_option maxHeartbeats 2000000 in
theorem grQntP_any (a : Option Addr) (l : List Int) (cap : Nat) (o u : Int) (w : World) (h : Ints w a l) :
  Calls Try.prog 41 #[.slice a l.length cap, .int .i64 o, .int .i64 u] w (PairG w (qntV l o u)) := by
  have hlen := h.len
  have HP := hid (grCounts_any a l cap o u w h)
  rw [show ctE l o u = portE l o u 0 by unfold ctE portE; simp [cinB]] at HP
  have HE := hid (show qntV l o u = if portE l o u 0 = 0 then (((qTo l o u l.length : Nat) : Int), 0) else (0, portE l o u 0) from rfl)
  by_cases h0 : portE l o u 0 = 0
  · obtain ⟨hl, ho, hu, hq⟩ := portE_ok h0
    have HE2 := hid ((HE.out).trans (if_pos h0))
    rw [h0] at HP
    have HC := hid (grQuantity_any a l cap o u w h hl ho hu)
    clear h h0 hl ho hu HE
    go_enter Try.func41, Try.ntmps41
    go_wp2_with fail
    refine HP.out.mono ?_
    rintro e w1 ⟨rfl, rfl⟩
    go_wp2_with fail
    refine HC.out.mono ?_
    rintro e w1 ⟨rfl, rfl⟩
    go_wp2
    go_ret2
    exact ⟨rfl, by rw [HE2.out]; rfl⟩
  · have HE2 := hid ((HE.out).trans (if_neg h0))
    have h1 : (portE l o u 0 != 0) = true := by simp [h0]
    clear h h0 HE
    generalize portE l o u 0 = v at *
    go_enter Try.func41, Try.ntmps41
    go_wp2_with fail
    refine HP.out.mono ?_
    rintro e w1 ⟨rfl, rfl⟩
    go_wp2
    go_ret2
    exact ⟨rfl, by rw [HE2.out]; rfl⟩
set_option maxHeartbeats 2000000 in
theorem grBstP_any (a : Option Addr) (l : List Int) (cap : Nat) (o u q : Int) (w : World) (h : Ints w a l) :
  Calls Try.prog 43 #[.slice a l.length cap, .int .i64 o, .int .i64 u, .int .i64 q] w (BoolG w (bstV l o u q)) := by
  have hlen := h.len
  have HP := hid (grPort_any a l cap o u q w h)
  have HE := hid (show bstV l o u q = if portE l o u q = 0 then (decide (costL l o u q.toNat = costL l o u (qTo l o u l.length)), 0) else (false, portE l o u q) from rfl)
  by_cases h0 : portE l o u q = 0
  · obtain ⟨hl, ho, hu, hq⟩ := portE_ok h0
    obtain ⟨n, rfl⟩ := Int.eq_ofNat_of_zero_le hq.1
    have HE2 := hid ((HE.out).trans (if_pos h0))
    rw [h0] at HP
    have hq9 := qTo_le l o u l.length
    have HQ := hid (grQuantity_any a l cap o u w h hl ho hu)
    have HC := hid (grCost_any a l cap o u n w h hl ho hu (by omega))
    have HC1 := hid (grCost_any a l cap o u (qTo l o u l.length) w h hl ho hu (by have := hl.len; omega))
    rw [Int.toNat_natCast] at HE2
    generalize costL l o u n = x at *
    generalize costL l o u (qTo l o u l.length) = y at *
    generalize qTo l o u l.length = bq at *
    clear h h0 hl ho hu HE
    go_enter Try.func43, Try.ntmps43
    go_wp2_with fail
    refine HP.out.mono ?_
    rintro e w1 ⟨rfl, rfl⟩
    go_wp2_with fail
    refine HC.out.mono ?_
    rintro e w1 ⟨rfl, rfl⟩
    go_wp2_with fail
    refine HQ.out.mono ?_
    rintro e w1 ⟨rfl, rfl⟩
    go_wp2_with fail
    refine HC1.out.mono ?_
    rintro e w1 ⟨rfl, rfl⟩
    go_wp2
    go_ret2
    exact ⟨rfl, by rw [HE2.out]; rfl⟩
  · have HE2 := hid ((HE.out).trans (if_neg h0))
    have h1 : (portE l o u q != 0) = true := by simp [h0]
    clear h h0 HE
    generalize portE l o u q = v at *
    go_enter Try.func43, Try.ntmps43
    go_wp2_with fail
    refine HP.out.mono ?_
    rintro e w1 ⟨rfl, rfl⟩
    go_wp2
    go_ret2
    exact ⟨rfl, by rw [HE2.out]; rfl⟩

end Go.Proofs.Ytfjncmhbpfcdiaa
