/- The walk of the law GuessTails. -/
import Derived.Test.YtfjncmhbpfcdiabGuTr
set_option linter.unusedVariables false
namespace Go.Proofs.Ytfjncmhbpfcdiab
open Go.RowKit

def BelB (w : World) (p : Int × Int) (en : Ending) (w' : World) : Prop := Below w.heap.size w w' ∧ en = .returned (.tuple #[.int .i64 p.1, .int .i64 p.2])
theorem tailV_ok (n k : Nat) (h : n ≤ 40) (hk : k ≤ n) : tailV n k = (((tailN n k : Nat) : Int), 0) := by
  unfold tailV; rw [if_pos (by omega)]; rfl
theorem tailV_no (t q : Int) (h : ¬ (0 ≤ t ∧ t ≤ 40 ∧ 0 ≤ q ∧ q ≤ t)) : tailV t q = (0, 1) := by
  unfold tailV; rw [if_neg h]
set_option maxHeartbeats 1000000 in
theorem grTailP_any (t q : Int) (w : World) : Calls Try.prog 7 #[.int .i64 t, .int .i64 q] w (BelB w (tailV t q)) := by
  by_cases hb : 0 ≤ t
  case neg =>
    have hb0 : t < 0 := by omega
    rw [tailV_no t q (fun h => hb h.1)]
    clear hb
    go_enter Try.func7, Try.ntmps7
    go_wp2
    go_ret2
    exact ⟨Below.refl _ _, rfl⟩
  have hc0 := hb
  clear hb
  by_cases hb : t ≤ 40
  case neg =>
    have hb1 : 40 < t := by omega
    rw [tailV_no t q (fun h => hb h.2.1)]
    clear hb
    go_enter Try.func7, Try.ntmps7
    go_wp2
    go_ret2
    exact ⟨Below.refl _ _, rfl⟩
  have hc1 := hb
  clear hb
  by_cases hb : 0 ≤ q
  case neg =>
    have hb2 : q < 0 := by omega
    rw [tailV_no t q (fun h => hb h.2.2.1)]
    clear hb
    go_enter Try.func7, Try.ntmps7
    go_wp2
    go_ret2
    exact ⟨Below.refl _ _, rfl⟩
  have hc2 := hb
  clear hb
  by_cases hb : q ≤ t
  case neg =>
    have hb3 : t < q := by omega
    rw [tailV_no t q (fun h => hb h.2.2.2)]
    clear hb
    go_enter Try.func7, Try.ntmps7
    go_wp2
    go_ret2
    exact ⟨Below.refl _ _, rfl⟩
  have hc3 := hb
  clear hb
  obtain ⟨n, rfl⟩ := Int.eq_ofNat_of_zero_le hc0
  obtain ⟨k, rfl⟩ := Int.eq_ofNat_of_zero_le hc2
  rw [tailV_ok n k (by omega) (by omega)]
  have HT := hid (fun W => grTail_any n k (by omega) (by omega) W)
  have dk : decide (n < k) = false := decide_eq_false (by omega)
  generalize tailN n k = x at *
  go_enter Try.func7, Try.ntmps7
  go_wp2_with fail
  refine (HT.out _).mono ?_
  rintro e w1 ⟨q1, rfl⟩
  have P1 := hid q1
  clear q1
  go_wp2
  go_ret2
  exact ⟨P1.out, rfl⟩
set_option maxRecDepth 100000 in
set_option maxHeartbeats 4000000 in
theorem guessTails_walk (t q : Int) (w : World) (bt : -9223372036854775808 ≤ t ∧ t ≤ 9223372036854775807) (bq : -9223372036854775808 ≤ q ∧ q ≤ 9223372036854775807) :
  Calls Try.prog 3 #[.int .i64 t, .int .i64 q] w (BoolR w true) := by
  have H1 := hid (fun W => gTailP_any t q W)
  have H2 := hid (grTailP_any t q w)
  by_cases hv : 0 ≤ t ∧ t ≤ 40 ∧ 0 ≤ q ∧ q ≤ t
  case neg =>
    rw [tailV_no t q hv] at H1 H2
    clear hv
    go_enter Try.func3, Try.ntmps3
    go_wp2_with fail
    refine (H1.out _).mono ?_
    rintro e w1 ⟨rfl, rfl⟩
    go_wp2_with fail
    refine H2.out.mono ?_
    rintro e w2 ⟨q2, rfl⟩
    have P2 := hid q2
    clear q2
    go_wp2_with fail
    refine (known6_any _).mono ?_
    rintro e wz ⟨hb, rfl⟩
    have PZ := hid (P2.out.trans (hb.mono P2.out.size))
    clear hb
    go_wp2
    go_ret
    exact ⟨PZ.out, rfl⟩
  obtain ⟨n, rfl⟩ := Int.eq_ofNat_of_zero_le hv.1
  obtain ⟨k, rfl⟩ := Int.eq_ofNat_of_zero_le hv.2.2.1
  rw [tailV_ok n k (by omega) (by omega)] at H1 H2
  have hn : n ≤ 40 := by omega
  have hkn : k ≤ n := by omega
  by_cases h0 : k = 0
  · subst h0
    rw [tailN_all, pow_cast'] at H1 H2
    have hp := pow48 n (by omega)
    by_cases hz : n = 0
    · subst hz
      rw [Int.pow_zero] at H1 H2
      clear hv hp
      go_enter Try.func3, Try.ntmps3
      go_wp2_with fail
      refine (H1.out _).mono ?_
      rintro e w1 ⟨rfl, rfl⟩
      go_wp2_with fail
      refine H2.out.mono ?_
      rintro e w2 ⟨q2, rfl⟩
      have P2 := hid q2
      clear q2
      go_wp2_with fail
      refine (known6_any _).mono ?_
      rintro e wz ⟨hb, rfl⟩
      have PZ := hid (P2.out.trans (hb.mono P2.out.size))
      clear hb
      go_wp2
      go_ret
      exact ⟨PZ.out, rfl⟩
    · have hz1 : ((n : Int) == 0) = false := by rw [beq_eq_false_iff_ne]; omega
      have hz2 : ((0 : Int) == (n : Int)) = false := by rw [beq_eq_false_iff_ne]; omega
      have hn' : (n : Int) ≤ 40 := by omega
      have hz5 : ¬ ((0 : Int) = (n : Int)) := by omega
      clear hv
      go_enter Try.func3, Try.ntmps3
      go_wp2_with fail
      refine (H1.out _).mono ?_
      rintro e w1 ⟨rfl, rfl⟩
      go_wp2_with fail
      refine H2.out.mono ?_
      rintro e w2 ⟨q2, rfl⟩
      have P2 := hid q2
      clear q2
      go_wp2_with fail
      refine (known6_any _).mono ?_
      rintro e wz ⟨hb, rfl⟩
      have PZ := hid (P2.out.trans (hb.mono P2.out.size))
      clear hb
      go_wp2
      go_ret
      exact ⟨PZ.out, rfl⟩
  · by_cases hkk : k = n
    · subst hkk
      rw [tailN_last] at H1 H2
      have hz1 : ((k : Int) == 0) = false := by rw [beq_eq_false_iff_ne]; omega
      clear hv
      go_enter Try.func3, Try.ntmps3
      go_wp2_with fail
      refine (H1.out _).mono ?_
      rintro e w1 ⟨rfl, rfl⟩
      go_wp2_with fail
      refine H2.out.mono ?_
      rintro e w2 ⟨q2, rfl⟩
      have P2 := hid q2
      clear q2
      go_wp2_with fail
      refine (known6_any _).mono ?_
      rintro e wz ⟨hb, rfl⟩
      have PZ := hid (P2.out.trans (hb.mono P2.out.size))
      clear hb
      go_wp2
      go_ret
      exact ⟨PZ.out, rfl⟩
    · have hz1 : ((k : Int) == 0) = false := by rw [beq_eq_false_iff_ne]; omega
      have hz3 : ((n : Int) == 0) = false := by rw [beq_eq_false_iff_ne]; omega
      have hz2 : ((k : Int) == (n : Int)) = false := by rw [beq_eq_false_iff_ne]; omega
      have hz4 : (k == n) = false := by rw [beq_eq_false_iff_ne]; omega
      have H3 := hid (fun W => gTailP_any ((n : Int) - 1) k W)
      have H4 := hid (fun W => gTailP_any ((n : Int) - 1) ((k : Int) - 1) W)
      rw [show (n : Int) - 1 = ((n - 1 : Nat) : Int) by omega, tailV_ok (n - 1) k (by omega) (by omega), show ((n - 1 : Nat) : Int) = (n : Int) - 1 by omega] at H3
      rw [show (n : Int) - 1 = ((n - 1 : Nat) : Int) by omega, show (k : Int) - 1 = ((k - 1 : Nat) : Int) by omega, tailV_ok (n - 1) (k - 1) (by omega) (by omega), show ((n - 1 : Nat) : Int) = (n : Int) - 1 by omega, show ((k - 1 : Nat) : Int) = (k : Int) - 1 by omega] at H4
      have hr := tailN_rec (n - 1) (k - 1)
      rw [show n - 1 + 1 = n by omega, show k - 1 + 1 = k by omega] at hr
      have b1 := tailTo_bd (n - 1) k (n - 1 + 1) (by omega)
      have b2 := tailTo_bd (n - 1) (k - 1) (n - 1 + 1) (by omega)
      rw [show tailTo (n - 1) k (n - 1 + 1) = tailN (n - 1) k from rfl] at b1
      rw [show tailTo (n - 1) (k - 1) (n - 1 + 1) = tailN (n - 1) (k - 1) from rfl] at b2
      rw [hr, Nat.add_comm, Int.natCast_add] at H1 H2
      generalize tailN (n - 1) k = x at *
      generalize tailN (n - 1) (k - 1) = y at *
      have hk' : (1 : Int) ≤ (k : Int) := by omega
      have hn' : (1 : Int) ≤ (n : Int) := by omega
      have hn9 : (n : Int) ≤ 40 := by omega
      have hk9 : (k : Int) ≤ 40 := by omega
      clear hv hr
      go_enter Try.func3, Try.ntmps3
      go_wp2_with fail
      refine (H1.out _).mono ?_
      rintro e w1 ⟨rfl, rfl⟩
      go_wp2_with fail
      refine H2.out.mono ?_
      rintro e w2 ⟨q2, rfl⟩
      have P2 := hid q2
      clear q2
      go_wp2_with fail
      refine (H3.out _).mono ?_
      rintro e w3 ⟨rfl, rfl⟩
      go_wp2_with fail
      refine (H4.out _).mono ?_
      rintro e w4 ⟨rfl, rfl⟩
      go_wp2_with fail
      refine (known6_any _).mono ?_
      rintro e wz ⟨hb, rfl⟩
      have PZ := hid (P2.out.trans (hb.mono P2.out.size))
      clear hb
      go_wp2
      go_ret
      exact ⟨PZ.out, rfl⟩
end Go.Proofs.Ytfjncmhbpfcdiab
