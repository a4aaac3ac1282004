/- The walk of the law GuessBounds. -/
import Derived.Test.YtfjncmhbpfcdiaaGuBr
import Derived.Test.YtfjncmhbpfcdiaaGuKn
set_option linter.unusedVariables false
namespace Go.Proofs.Ytfjncmhbpfcdiaa
open Go.RowKit

theorem bound_some (n u : Nat) (h1 : 1 ≤ n) (h2 : n ≤ 8) (h3 : u ≤ 24) : boundV n u = (((bndTo n u 25 : Nat) : Int), 0) := by
  unfold boundV
  rw [if_pos (by omega)]; rfl
theorem bound_none (a v : Int) (h : ¬ (1 ≤ a ∧ a ≤ 8 ∧ 0 ≤ v ∧ v ≤ 24)) : boundV a v = (0, 1) := by
  unfold boundV
  rw [if_neg h]
set_option maxRecDepth 100000 in
set_option maxHeartbeats 2000000 in
theorem guessBounds_walk (a v : Int) (w : World) (ba : -9223372036854775808 ≤ a ∧ a ≤ 9223372036854775807) (bv : -9223372036854775808 ≤ v ∧ v ≤ 9223372036854775807) :
  Calls Try.prog 5 #[.int .i64 a, .int .i64 v] w (BoolR w true) := by
  have H1 := hid (gBound_any a v w)
  have H2 := hid (grBound_any a v w)
  by_cases hv : 1 ≤ a ∧ a ≤ 8 ∧ 0 ≤ v ∧ v ≤ 24
  · obtain ⟨n, rfl⟩ := Int.eq_ofNat_of_zero_le (show 0 ≤ a by omega)
    obtain ⟨u, rfl⟩ := Int.eq_ofNat_of_zero_le hv.2.2.1
    rw [bound_some n u (by omega) (by omega) (by omega)] at H1 H2
    have hx := bndTo_le n u 25
    by_cases h8 : n = 8
    · subst h8
      generalize bndTo 8 u 25 = x at *
      clear hv ba bv
      go_enter Try.func5, Try.ntmps5
      go_wp2_with fail
      refine H1.out.mono ?_
      rintro e w1 ⟨rfl, rfl⟩
      go_wp2_with fail
      refine H2.out.mono ?_
      rintro e w1 ⟨rfl, rfl⟩
      go_wp2_with fail
      refine (known6_any _).mono ?_
      rintro e w2 ⟨hb, rfl⟩
      go_wp2
      go_ret
      exact ⟨hb, rfl⟩
    · have h8' : ((n : Int) == 8) = false := by rw [beq_eq_false_iff_ne]; omega
      by_cases h24 : u = 24
      · subst h24
        generalize bndTo n 24 25 = x at *
        clear hv ba bv h8
        go_enter Try.func5, Try.ntmps5
        go_wp2_with fail
        refine H1.out.mono ?_
        rintro e w1 ⟨rfl, rfl⟩
        go_wp2_with fail
        refine H2.out.mono ?_
        rintro e w1 ⟨rfl, rfl⟩
        go_wp2_with fail
        refine (known6_any _).mono ?_
        rintro e w2 ⟨hb, rfl⟩
        go_wp2
        go_ret
        exact ⟨hb, rfl⟩
      · have h24' : ((u : Int) == 24) = false := by rw [beq_eq_false_iff_ne]; omega
        have hn8 : (n : Int) ≤ 8 := by omega
        have hu24 : (u : Int) ≤ 24 := by omega
        have H3 := hid (gBound_any ((n : Int) + 1) u w)
        have H4 := hid (gBound_any n ((u : Int) + 1) w)
        rw [show (n : Int) + 1 = ((n + 1 : Nat) : Int) by omega, bound_some (n + 1) u (by omega) (by omega) (by omega), show ((n + 1 : Nat) : Int) = (n : Int) + 1 by omega] at H3
        rw [show (u : Int) + 1 = ((u + 1 : Nat) : Int) by omega, bound_some n (u + 1) (by omega) (by omega) (by omega), show ((u + 1 : Nat) : Int) = (u : Int) + 1 by omega] at H4
        have m1 := bndTo_mono n u (n + 1) u 25 (fun m => bndP_mono n u (n + 1) u m (by omega) (by omega))
        have m2 := bndTo_mono n u n (u + 1) 25 (fun m => bndP_mono n u n (u + 1) m (by omega) (by omega))
        generalize bndTo n u 25 = x at *
        generalize bndTo (n + 1) u 25 = y at *
        generalize bndTo n (u + 1) 25 = z at *
        have d1 : decide (x ≤ y) = true := decide_eq_true m1
        have d2 : decide (x ≤ z) = true := decide_eq_true m2
        clear hv ba bv h8 h24
        go_enter Try.func5, Try.ntmps5
        go_wp2_with fail
        refine H1.out.mono ?_
        rintro e w1 ⟨rfl, rfl⟩
        go_wp2_with fail
        refine H2.out.mono ?_
        rintro e w1 ⟨rfl, rfl⟩
        go_wp2_with fail
        refine H3.out.mono ?_
        rintro e w1 ⟨rfl, rfl⟩
        go_wp2_with fail
        refine H4.out.mono ?_
        rintro e w1 ⟨rfl, rfl⟩
        go_wp2_with fail
        refine (known6_any _).mono ?_
        rintro e w2 ⟨hb, rfl⟩
        go_wp2
        go_ret
        exact ⟨hb, rfl⟩
  · rw [bound_none a v hv] at H1 H2
    clear hv
    go_enter Try.func5, Try.ntmps5
    go_wp2_with fail
    refine H1.out.mono ?_
    rintro e w1 ⟨rfl, rfl⟩
    go_wp2_with fail
    refine H2.out.mono ?_
    rintro e w1 ⟨rfl, rfl⟩
    go_wp2_with fail
    refine (known6_any _).mono ?_
    rintro e w2 ⟨hb, rfl⟩
    go_wp2
    go_ret
    exact ⟨hb, rfl⟩
end Go.Proofs.Ytfjncmhbpfcdiaa
