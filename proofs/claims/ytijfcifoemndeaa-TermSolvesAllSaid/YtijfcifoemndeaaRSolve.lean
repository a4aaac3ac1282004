/- The document's own answer for remainders: gcd and Solve. -/
import Derived.Test.YtijfcifoemndeaaRef
import Derived.Test.YtijfcifoemndeaaSolvesM
set_option linter.unusedVariables false
namespace Go.Proofs.Ytijfcifoemndeaa
open Go.RowKit

set_option maxRecDepth 100000 in
set_option maxHeartbeats 1000000 in
theorem rgcd_any (a b : Int) (w : World) (ha : 1 ≤ a) (hb : 1 ≤ b) (ha2 : a ≤ 9223372036854775807) (hb2 : b ≤ 9223372036854775807) :
  Calls Try.prog 75 #[.int .i64 a, .int .i64 b] w fun en w' => w = w' ∧ en = .returned (.int .i64 (Int.gcd a b : Int)) := by
  go_enter Try.func75, Try.ntmps75
  go_wp2
  go_loop [0, 1] (fun p q => ∃ x y : Int, p = .int .i64 x ∧ q = .int .i64 y ∧ 1 ≤ x ∧ 0 ≤ y ∧ x ≤ 9223372036854775807 ∧ y ≤ 9223372036854775807 ∧ Hid (Int.gcd x y = Int.gcd a b)) (fun _ q => (intOf q).toNat)
  case atStart => exact ⟨a, b, rfl, rfl, ha, by omega, ha2, hb2, rfl⟩
  case round =>
    clear ha hb ha2 hb2
    obtain ⟨x, y, rfl, rfl, hx, hy, hx2, hy2, HG⟩ := hrel
    by_cases h0 : 0 < y
    · have hn : (y != 0) = true := by simp; omega
      have hz : (y == 0) = false := by simp; omega
      have HS := hid (gcd_step x y (by omega) h0)
      have hr := Int.emod_lt_of_pos x h0
      have hr0 := Int.emod_nonneg x (by omega : y ≠ 0)
      go_wp2
      go_round
      case rel => exact ⟨y, x % y, rfl, rfl, by omega, hr0, by omega, by omega, by unfold Hid; rw [HS.out, HG.out]⟩
      case measure => simp [intOf]; omega
    · obtain rfl : y = 0 := by omega
      have HE := hid (show ((Int.gcd a b : Nat) : Int) = x by rw [← HG.out]; simp [Int.gcd]; omega)
      clear h0
      go_wp2
      go_ret
      exact ⟨rfl, ret_int HE.out.symm⟩

theorem badModulus_inB (x : Int × Int) : badModulus x = !inB x.2 1 100000 := by
  unfold badModulus inB
  rw [← decide_not, decide_eq_decide]; omega

set_option maxRecDepth 100000 in
set_option maxHeartbeats 4000000 in
theorem rsolve_any (a : Option Addr) (ls : List (Int × Int)) (cap : Nat) (w : World) (hl : Lines w a ls) :
  Calls Try.prog 47 #[.slice a ls.length cap] w (SolveR w (rsolveL ls)) := by
  have hlen := hl.len
  by_cases h6 : 6 < ls.length
  · have hd : (6 : Int) < (ls.length : Int) := by omega
    have HR := hid (show rsolveL ls = (0, 0, false, 4) by simp [rsolveL, checkL, h6])
    go_enter Try.func47, Try.ntmps47
    go_wp2
    refine bodyPost_ret (v := .tuple #[.int .i64 0, .int .i64 0, .bool false, .int .i64 4]) (by simp [results, Try.results47, go_sem]) rfl ⟨Below.refl _ _, ret_solve (a := (0, 0, false, 4)) (by rw [HR.out])⟩
  · go_enter Try.func47, Try.ntmps47
    go_wp2
    go_loopw [6] (fun i wr => ∃ k : Nat, k ≤ ls.length ∧ i = .int .i64 k ∧ Hid (anyBad ls = anyBad (ls.drop k)) ∧ Below w.heap.size w wr) (fun i _ => ls.length - (intOf i).toNat)
    case atStart => exact ⟨0, Nat.zero_le _, rfl, rfl, Below.refl _ _⟩
    case round =>
      obtain ⟨k, hk, rfl, HA, hB⟩ := hrel
      by_cases hlt : k < ls.length
      · rcases hl.at_ with e | ⟨b, off, rfl, hc⟩
        · rw [e] at hlt; simp at hlt
        have h2 := (hc k hlt).2
        have hbl := cell_lt h2
        obtain ⟨hb1, hb2⟩ := bcell hB
        clear hc
        have HD := hid (anyBad_drop ls k hlt)
        have HM := hid (badModulus_inB (ls[k]?.getD (0, 0)))
        generalize ls[k]?.getD (0, 0) = x at *
        go_wp2_with fail
        refine (within_any _ _ _ _).mono ?_
        rintro e w' ⟨rfl, rfl⟩
        cases hin : inB x.2 1 100000 with
        | false =>
          rw [hin] at HM
          go_wp2
          refine bodyPost_ret (v := .tuple #[.int .i64 0, .int .i64 0, .bool false, .int .i64 1]) (by simp [results, Try.results47, go_sem]) rfl ⟨hB, ret_solve (a := (0, 0, false, 1)) ?_⟩
          rw [rsolveL, checkL, if_neg h6, HA.out, HD.out, HM.out]; rfl
        | true =>
          rw [hin] at HM
          go_wp2
          go_roundw
          case rel => exact ⟨k + 1, by omega, by go_num, by unfold Hid; rw [HA.out, HD.out, HM.out]; rfl, hB⟩
          case measure => simp [intOf]; omega
      · have HB := hid (show anyBad ls = false by rw [HA.out, List.drop_of_length_le (by omega)]; rfl)
        clear HA
        go_wp2
        obtain ⟨wo, rfl⟩ : ∃ wo : World, wo = wr := ⟨_, rfl⟩
        go_loopw [7, 8] (fun m i wr => ∃ (k : Nat) (m' : Int), k ≤ ls.length ∧ i = .int .i64 k ∧ m = .int .i64 m' ∧ 1 ≤ m' ∧ m' ≤ 1099511627776 ∧ Hid (lcmTo 1 ls = lcmTo m' (ls.drop k)) ∧ Hid (lcmAll 1 ls = lcmAll m' (ls.drop k)) ∧ Below w.heap.size w wr) (fun _ i _ => ls.length - (intOf i).toNat)
        case atStart => exact ⟨0, 1, Nat.zero_le _, rfl, rfl, by omega, by omega, rfl, rfl, hB⟩
        case round =>
          clear hk hB hlt
          obtain ⟨k, m, hk, rfl, rfl, hm1, hm2, HA, HL, hB⟩ := hrel
          by_cases hlt : k < ls.length
          · rcases hl.at_ with e | ⟨b, off, rfl, hc⟩
            · rw [e] at hlt; simp at hlt
            have h2 := (hc k hlt).2
            have hbl := cell_lt h2
            obtain ⟨hb1, hb2⟩ := bcell hB
            clear hc
            have HD := hid (lcmTo_drop m ls k hlt)
            have HE := hid (lcmAll_drop m ls k hlt)
            have hbd := anyBad_false ls HB.out k hlt
            generalize ls[k]?.getD (0, 0) = x at *
            have hp := part_bd m x.2 hm1 hbd.1
            have hg1 : 1 ≤ ((Int.gcd m x.2 : Nat) : Int) := by have := (egcd_facts m x.2 hm1 hbd.1); omega
            have HQ := hid (rstepTo_div m x.2 hm1 hbd.1)
            have hg0 : (((Int.gcd m x.2 : Nat) : Int) == 0) = false := by simp; omega
            have hq1 : 0 ≤ m / ((Int.gcd m x.2 : Nat) : Int) := Int.ediv_nonneg (by omega) (by omega)
            have hq2 : m / ((Int.gcd m x.2 : Nat) : Int) ≤ m := Int.ediv_le_self _ (by omega)
            have hq3 := mul_bd0 (m / ((Int.gcd m x.2 : Nat) : Int)) x.2 1099511627776 100000 hq1 (by omega) (by omega) hbd.2
            have hq4 := (rstepTo_bd m x.2 hm1 hbd.1).2
            have HG := hid (rgcd_any m x.2 · hm1 hbd.1 (by omega) (by omega))
            generalize ((Int.gcd m x.2 : Nat) : Int) = g at *
            have ht : Int.tdiv m g = m / g := Int.tdiv_eq_ediv_of_nonneg (by omega)
            have hw1 : IntKind.i64.wrap (m / g) = m / g := IntWalk.i64_in _ (by omega)
            have hw2 : IntKind.i64.wrap (m / g * x.2) = m / g * x.2 := IntWalk.i64_in _ (by omega)
            by_cases hbig : 1099511627776 < m / g * x.2
            all_goals
              go_wp2_with fail
              go_quiet ((go_at_call 75; exact Calls.quiet_of_same ((HG.out _).mono fun _ _ h => ⟨h.2, h.1.symm⟩)))
              go_wp2
            · refine bodyPost_ret (v := .tuple #[.int .i64 0, .int .i64 0, .bool false, .int .i64 4]) (by simp [results, Try.results47, go_sem]) rfl ⟨below_drewN hB _, ret_solve (a := (0, 0, false, 4)) ?_⟩
              clear ht hw1 hw2
              have e1 : lcmTo 1 ls = 4 := by rw [HA.out, HD.out, if_pos (by rw [HQ.out] at hbig; exact hbig)]
              rw [rsolveL, checkL, if_neg h6, HB.out, e1]; rfl
            · clear ht hw1 hw2
              have h9 : m * (x.2 / (egcd m x.2 1 0).1) = m / g * x.2 := HQ.out.symm
              go_roundw
              case rel =>
                refine ⟨k + 1, m / g * x.2, by omega, by go_num, rfl, by rw [HQ.out]; exact hq4, by omega, ?_, ?_, below_drewN hB _⟩
                · unfold Hid; rw [HA.out, HD.out, if_neg (by omega), h9]
                · unfold Hid; rw [HL.out, HE.out, ← HQ.out]
              case measure => simp [intOf]; omega
          · have HZ := hid (show lcmTo 1 ls = 0 by rw [HA.out, List.drop_of_length_le (by omega)]; rfl)
            obtain rfl : k = ls.length := by omega
            have HC := hid (show checkL ls = 0 by rw [checkL, if_neg h6, HB.out, HZ.out]; rfl)
            have HS := hid (show rsolveL ls = _ from by rw [rsolveL, if_neg (by rw [HC.out]; simp)])
            have HLm := hid (show m = lcmAll 1 ls by rw [HL.out, List.drop_of_length_le (by omega)]; rfl)
            clear hlt hk HA HL
            go_wp2
            obtain ⟨wo, rfl⟩ : ∃ wo : World, wo = wr := ⟨_, rfl⟩
            go_loopw [9, 10, 11] (fun v st i wr => ∃ (k : Nat) (r s : Int), k ≤ ls.length ∧ i = .int .i64 k ∧ v = .int .i64 r ∧ st = .int .i64 s ∧ 0 ≤ r ∧ r < s ∧ s ≤ 1099511627776 ∧ Hid (lcmTo s (ls.drop k) = 0) ∧ Hid (rsolveFrom 0 1 ls = rsolveFrom r s (ls.drop k)) ∧ Below w.heap.size w wr) (fun _ _ i _ => ls.length - (intOf i).toNat)
            case atStart => exact ⟨0, 0, 1, Nat.zero_le _, rfl, rfl, rfl, by omega, by omega, by omega, HZ, rfl, hB⟩
            case round =>
              clear hB
              obtain ⟨k, r, s, hk, rfl, rfl, rfl, hr0, hrs, hs2, HL, HA, hB⟩ := hrel
              by_cases hlt : k < ls.length
              · rcases hl.at_ with e | ⟨b, off, rfl, hc⟩
                · rw [e] at hlt; simp at hlt
                have h1 := (hc k hlt).1
                have h2 := (hc k hlt).2
                have hbl := cell_lt h2
                obtain ⟨hb1, hb2⟩ := bcell hB
                have hmem := hl.bd (ls[k]?.getD (0, 0)) (by rw [List.getElem?_eq_getElem hlt]; simp)
                clear hc hl
                have hl2 := lcmTo_zero s ls k hlt HL.out
                have HL2 := hid hl2.2
                have hl3 := hl2.1
                clear hl2 HL
                have HD := hid (rsolveFrom_drop r s ls k hlt)
                have hbd := anyBad_false ls HB.out k hlt
                generalize ls[k]?.getD (0, 0) = x at *
                have hp := part_bd s x.2 (by omega) hbd.1
                have hx2 := emod_bd x.1 x.2 hbd.1
                have HM := hid (rmodulo_any x.1 x.2 · hbd.1 (by omega) hmem.1.1 hmem.1.2)
                have hm0 : (x.2 == 0) = false := by simp; omega
                go_wp2
                obtain ⟨wi, rfl⟩ : ∃ wi : World, wi = wr := ⟨_, rfl⟩
                go_loopw [9, 13] (fun v t wr => ∃ (q : Nat) (y : Int), (q : Int) ≤ x.2 ∧ t = .int .i64 q ∧ v = .int .i64 y ∧ 0 ≤ y ∧ y ≤ ((q : Int) + 1) * 1099511627776 ∧ Hid (rtry s x.2 (x.1 % x.2) x.2.toNat r = rtry s x.2 (x.1 % x.2) (x.2.toNat - q) y) ∧ Below w.heap.size w wr) (fun _ t _ => x.2.toNat - (intOf t).toNat)
                case atStart => exact ⟨0, r, by omega, rfl, rfl, hr0, by omega, rfl, hB⟩
                case round =>
                  clear hB hb1 hb2
                  obtain ⟨q, y, hq, rfl, rfl, hy0, hy1, HT, hB⟩ := hrel
                  obtain ⟨hb1, hb2⟩ := bcell hB
                  have ht : Int.tmod y x.2 = y % x.2 := Int.tmod_eq_emod_of_nonneg hy0
                  by_cases he : y % x.2 = x.1 % x.2
                  · have he' : (y % x.2 != x.1 % x.2) = false := by simp [he]
                    have HV := hid (show rtry s x.2 (x.1 % x.2) x.2.toNat r = some y by
                      rw [HT.out]
                      rcases hqq : x.2.toNat - q with _ | n
                      · rw [rtry, if_pos he]
                      · rw [rtry, if_pos he])
                    clear he
                    go_wp2_with fail
                    go_quiet ((go_at_call 72; exact Calls.quiet_of_same ((HM.out _).mono fun _ _ h => ⟨h.2, h.1.symm⟩)))
                    clear ht HT
                    go_wp2_with fail
                    have hg1 : 1 ≤ ((Int.gcd s x.2 : Nat) : Int) := by have := (egcd_facts s x.2 (by omega) hbd.1); omega
                    have HQ := hid (rstepTo_div s x.2 (by omega) hbd.1)
                    have hg0 : (((Int.gcd s x.2 : Nat) : Int) == 0) = false := by simp; omega
                    have hq1 : 0 ≤ s / ((Int.gcd s x.2 : Nat) : Int) := Int.ediv_nonneg (by omega) (by omega)
                    have hq2 : s / ((Int.gcd s x.2 : Nat) : Int) ≤ s := Int.ediv_le_self _ (by omega)
                    have hq3 := mul_bd0 (s / ((Int.gcd s x.2 : Nat) : Int)) x.2 1099511627776 100000 hq1 (by omega) (by omega) hbd.2
                    have hq4 := (rstepTo_bd s x.2 (by omega) hbd.1).2
                    have hq5 : rstepTo s x.2 ≤ 1099511627776 := hl3
                    rw [← HQ.out] at hq4 hq5
                    have hz2 : (s / ((Int.gcd s x.2 : Nat) : Int) * x.2 == 0) = false := by simp only [beq_eq_false_iff_ne, ne_eq]; omega
                    have hr5 := emod_bd y _ hq4
                    refine (rgcd_any s x.2 _ (by omega) hbd.1 (by omega) (by omega)).mono ?_
                    rintro e w' ⟨rfl, rfl⟩
                    generalize ((Int.gcd s x.2 : Nat) : Int) = g at *
                    go_wp2
                    go_roundw
                    case rel =>
                      refine ⟨k + 1, y % (s / g * x.2), s / g * x.2, by omega, by go_num, rfl, rfl, hr5.1, hr5.2, hq5, ?_, ?_, below_drewN hB _⟩
                      · rw [HQ.out]; exact HL2
                      · unfold Hid; rw [HA.out, HD.out, HV.out, HQ.out]
                    case measure => simp [intOf]; omega
                  · have he' : (y % x.2 != x.1 % x.2) = true := by simp [he]
                    by_cases hq2 : (q : Int) = x.2
                    · have HV := hid (show rtry s x.2 (x.1 % x.2) x.2.toNat r = none by
                        rw [HT.out, show x.2.toNat - q = 0 by omega, rtry, if_neg he])
                      have hgt : x.2 < (q : Int) + 1 := by omega
                      have HF := hid (show rsolveFrom 0 1 ls = (0, 0, false) by rw [HA.out, HD.out, HV.out])
                      clear he HT HV
                      go_wp2_with fail
                      go_quiet ((go_at_call 72; exact Calls.quiet_of_same ((HM.out _).mono fun _ _ h => ⟨h.2, h.1.symm⟩)))
                      clear ht
                      go_wp2
                      refine bodyPost_ret (v := .tuple #[.int .i64 0, .int .i64 0, .bool false, .int .i64 0]) (by simp [results, Try.results47, go_sem]) rfl ⟨below_drewN hB _, ret_solve (a := (0, 0, false, 0)) ?_⟩
                      rw [HS.out, HF.out]
                    · have hle : (q : Int) + 1 ≤ x.2 := by omega
                      have HV := hid (show rtry s x.2 (x.1 % x.2) x.2.toNat r = rtry s x.2 (x.1 % x.2) (x.2.toNat - (q + 1)) (y + s) by
                        rw [HT.out, show x.2.toNat - q = (x.2.toNat - (q + 1)) + 1 by omega, rtry, if_neg he])
                      clear he HT
                      go_wp2_with fail
                      go_quiet ((go_at_call 72; exact Calls.quiet_of_same ((HM.out _).mono fun _ _ h => ⟨h.2, h.1.symm⟩)))
                      clear ht
                      go_wp2
                      go_roundw
                      case rel => exact ⟨q + 1, y + s, by omega, by go_num, rfl, by omega, by omega, HV, below_drewN hB _⟩
                      case measure => simp [intOf]; omega
              · obtain rfl : k = ls.length := by omega
                have HF := hid (show rsolveFrom 0 1 ls = (r, s, true) by rw [HA.out, List.drop_of_length_le (by omega)]; rfl)
                have HE := hid (show s = m by
                  have := rsolveFrom_mod ls 0 1 (by rw [HF.out])
                  rw [HF.out] at this
                  rw [HLm.out]; exact this)
                clear HA
                go_wp2
                refine bodyPost_ret (v := .tuple #[.int .i64 r, .int .i64 m, .bool true, .int .i64 0]) (by simp [results, Try.results47, go_sem]) rfl ⟨hB, ret_solve (a := (r, m, true, 0)) ?_⟩
                rw [HS.out, HF.out, HE.out]

end Go.Proofs.Ytijfcifoemndeaa
