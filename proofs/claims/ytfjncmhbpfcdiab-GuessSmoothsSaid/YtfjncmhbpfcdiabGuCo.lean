/- The cost of portions: package guess, and the document's own. -/
import Derived.Test.YtfjncmhbpfcdiabGuA
import Derived.Test.YtfjncmhbpfcdiabGuCostM
import Derived.Test.YtfjncmhbpfcdiabRowsI
set_option linter.unusedVariables false
namespace Go.Proofs.Ytfjncmhbpfcdiab
open Go.RowKit

theorem one_yes {o u : Int} {q k : Nat} (h : k ≤ q) : oneC o u q k = o * ((q : Int) - (k : Int)) := if_pos h
theorem one_no {o u : Int} {q k : Nat} (h : ¬ k ≤ q) : oneC o u q k = u * ((k : Int) - (q : Int)) := if_neg h
theorem prod_bd {n p : Int} (h : 0 ≤ n ∧ n ≤ 10000) (h2 : 0 ≤ p ∧ p ≤ 101000) : 0 ≤ n * p ∧ n * p ≤ 1010000000 :=
  ⟨Int.mul_nonneg h.1 h2.1, Int.le_trans (Int.mul_le_mul_of_nonneg_right h.2 h2.1) (by omega)⟩
set_option maxRecDepth 100000 in
set_option maxHeartbeats 2000000 in
theorem gCost_any (a : Option Addr) (l : List Int) (cap : Nat) (o u : Int) (q : Nat) (w : World) (h : Ints w a l) (hl : CountsOk l) (ho : 0 ≤ o ∧ o ≤ 1000) (hu : 0 ≤ u ∧ u ≤ 1000) (hq : q ≤ 101) :
  Calls Try.prog 27 #[.slice a l.length cap, .int .i64 o, .int .i64 u, .int .i64 (q : Int)] w (NumG w (costL l o u q)) := by
  have hlen := hl.len
  have HH := hid h
  have HA := hid hl.all
  have HB := hid (fun k hk => costTo_bd hl o u q k ho hu hq hk)
  have HO := hid (fun k (hk : k ≤ 101) => oneC_bd o u q k ho hu hq hk)
  have HC := hid (show costL l o u q = costTo l o u q l.length from rfl)
  have HS := hid (show ∀ k, costTo l o u q (k + 1) = costTo l o u q k + cAt l k * oneC o u q k from fun k => rfl)
  clear h hl ho hu
  go_enter Try.func27, Try.ntmps27
  go_wp2
  go_loop [9, 14] (fun t i => ∃ (k : Nat), k ≤ l.length ∧ i = .int .i64 k ∧ t = .int .i64 (costTo l o u q k)) (fun _ i => l.length - (intOf i).toNat)
  case atStart => exact ⟨0, Nat.zero_le _, rfl, rfl⟩
  case round =>
    obtain ⟨k, hk, rfl, rfl⟩ := hrel
    by_cases hlt : k < l.length
    · rcases HH.out.at_ with e | ⟨b, off, rfl, hc⟩
      · rw [e] at hlt; simp at hlt
      have c0 := hc k hlt
      have hn := HA.out k hlt
      have hb1 := HB.out k hk
      have ho1 := HO.out k (by omega)
      have HN := hid (HS.out k)
      clear hc
      rw [show l[k]?.getD 0 = cAt l k from rfl] at c0
      generalize cAt l k = n at *
      generalize costTo l o u q k = s at *
      by_cases hkq : k ≤ q
      · rw [one_yes hkq] at ho1 HN
        have hy1 := prod_bd hn ho1
        have hx1 : (k : Int) - (q : Int) ≤ 0 := by omega
        have hx2 : 0 ≤ (q : Int) - (k : Int) := by omega
        have hx4 : (q : Int) - (k : Int) ≤ 101 := by omega
        have hl9 : (k : Int) ≤ 101 := by omega
        by_cases hz : k = q
        · subst hz
          have HN2 := hid (show costTo l o u k (k + 1) = s by rw [HN.out, Int.sub_self, Int.mul_zero, Int.mul_zero, Int.add_zero])
          clear HN ho1 hy1
          go_wp2
          go_round
          case rel => exact ⟨k + 1, by omega, by go_num, by rw [HN2.out]⟩
          case measure => simp [intOf]; omega
        · have hx1' : (k : Int) - (q : Int) < 0 := by omega
          have hx2' : 0 < (q : Int) - (k : Int) := by omega
          have hx3' : ¬ ((q : Int) - (k : Int) < 0) := by omega
          clear hz hkq
          generalize hx : (q : Int) - (k : Int) = x at *
          go_wp2
          go_round
          case rel => exact ⟨k + 1, by omega, by go_num, by rw [HN.out]⟩
          case measure => simp [intOf]; omega
      · rw [one_no hkq] at ho1 HN
        have hy1 := prod_bd hn ho1
        have hx1 : (q : Int) - (k : Int) < 0 := by omega
        have hx2 : ¬ ((k : Int) - (q : Int) < 0) := by omega
        have hx3 : 0 < (k : Int) - (q : Int) := by omega
        have hx4 : (k : Int) - (q : Int) ≤ 101 := by omega
        generalize hx : (k : Int) - (q : Int) = x at *
        go_wp2
        go_round
        case rel => exact ⟨k + 1, by omega, by go_num, by rw [HN.out]⟩
        case measure => simp [intOf]; omega
    · obtain rfl : k = l.length := by omega
      go_wp2
      go_ret
      exact ⟨rfl, by rw [HC.out]; rfl⟩
end Go.Proofs.Ytfjncmhbpfcdiab
