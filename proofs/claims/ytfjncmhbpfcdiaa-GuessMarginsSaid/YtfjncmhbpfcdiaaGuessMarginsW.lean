/- The walk of the law GuessMargins. -/
import Derived.Test.YtfjncmhbpfcdiaaGuCp
import Derived.Test.YtfjncmhbpfcdiaaGuKn
set_option linter.unusedVariables false
namespace Go.Proofs.Ytfjncmhbpfcdiaa
open Go.RowKit

theorem portE_q {l : List Int} {o u q p : Int} (h1 : 0 ≤ q ∧ q ≤ 100) (h2 : 0 ≤ p ∧ p ≤ 100) : portE l o u p = portE l o u q := by
  have e1 : cinB q 0 100 = true := by simp [cinB]; omega
  have e2 : cinB p 0 100 = true := by simp [cinB]; omega
  unfold portE
  rw [e1, e2]
theorem mrgV_ok {l : List Int} {o u : Int} {n : Nat} (h : portE l o u n = 0) : mrgV l o u n = (mrgL l o u n, 0) := by
  unfold mrgV; rw [if_pos h, Int.toNat_natCast]
theorem mrgV_no {l : List Int} {o u q : Int} (h : portE l o u q = 1) : mrgV l o u q = (0, 1) := by
  unfold mrgV; rw [h]; rfl
theorem bstV_no {l : List Int} {o u q : Int} (h : portE l o u q = 1) : bstV l o u q = (false, 1) := by
  unfold bstV; rw [h]; rfl
theorem bstV_ok {l : List Int} {o u : Int} {n : Nat} (h : portE l o u n = 0) : bstV l o u n = (decide (0 ≤ mrgL l o u n ∧ (n = 0 ∨ mrgL l o u (n - 1) ≤ 0)), 0) := by
  obtain ⟨hl, ho, hu, _⟩ := portE_ok h
  unfold bstV; rw [if_pos h, Int.toNat_natCast]
  rw [show decide (costL l o u n = costL l o u (qTo l o u l.length)) = decide (0 ≤ mrgL l o u n ∧ (n = 0 ∨ mrgL l o u (n - 1) ≤ 0)) from decide_eq_decide.2 (best_iff hl o u ho.1 hu.1 n)]
set_option maxRecDepth 100000 in
set_option maxHeartbeats 4000000 in
theorem guessMargins_walk (a : Option Addr) (l : List Int) (cap : Nat) (o u q : Int) (w : World) (h0 : l.length ≤ 9223372036854775807) (h : l.length ≤ 140737488355328 → Ints w a l) (bo : -9223372036854775808 ≤ o ∧ o ≤ 9223372036854775807) (bu : -9223372036854775808 ≤ u ∧ u ≤ 9223372036854775807) (bq : -9223372036854775808 ≤ q ∧ q ≤ 9223372036854775807) :
  Calls Try.prog 12 #[.slice a l.length cap, .agg #[.int .i64 o, .int .i64 u], .int .i64 q] w (BoolR w true) := by
  have hB0 := (Below.refl w.heap.size w).alloc (Nat.le_refl _) (.cells #[.int .i64 o, .int .i64 u] 55)
  by_cases hl : 300 < l.length
  · have hl' : (300 : Int) < (l.length : Int) := by omega
    have P0 := hid hB0
    clear h hl hB0
    go_enter Try.func12, Try.ntmps12
    go_wp2_with fail
    refine (known6_any _).mono ?_
    rintro e w2 ⟨hb, rfl⟩
    have P1 := hid (P0.out.trans (hb.mono P0.out.size))
    clear hb
    go_wp2
    go_ret
    exact ⟨P1.out, rfl⟩
  have hl' : (l.length : Int) ≤ 300 := by omega
  by_cases hq0 : q < 0
  · have P0 := hid hB0
    clear h hl hB0
    go_enter Try.func12, Try.ntmps12
    go_wp2_with fail
    refine (known6_any _).mono ?_
    rintro e w2 ⟨hb, rfl⟩
    have P1 := hid (P0.out.trans (hb.mono P0.out.size))
    clear hb
    go_wp2
    go_ret
    exact ⟨P1.out, rfl⟩
  have hq0' : 0 ≤ q := by omega
  by_cases hq1 : 100 ≤ q
  · have P0 := hid hB0
    clear h hl hB0 hq0
    go_enter Try.func12, Try.ntmps12
    go_wp2_with fail
    refine (known6_any _).mono ?_
    rintro e w2 ⟨hb, rfl⟩
    have P1 := hid (P0.out.trans (hb.mono P0.out.size))
    clear hb
    go_wp2
    go_ret
    exact ⟨P1.out, rfl⟩
  have hq1' : q < 100 := by omega
  have hI := (h (by omega)).below hB0
  have H0 := hid (gBstP_any a l cap o u q _ hI)
  have H1 := hid (gMrgP_any a l cap o u q _ hI)
  have H2 := hid (gMrgP_any a l cap o u (q + 1) _ hI)
  have H3 := hid (fun (hq : 0 < q) => gMrgP_any a l cap o u (q - 1) _ hI)
  have P0 := hid hB0
  clear h hl hB0 hI hq0 hq1
  rcases portE_cases l o u q with hp | hp
  · obtain ⟨hl, ho, hu, _⟩ := portE_ok hp
    obtain ⟨n, rfl⟩ := Int.eq_ofNat_of_zero_le hq0'
    have m1 := mrg_mono hl.nn o u ho.1 hu.1 n
    rw [bstV_ok hp] at H0
    rw [mrgV_ok hp] at H1
    rw [show (n : Int) + 1 = ((n + 1 : Nat) : Int) by omega, mrgV_ok ((portE_q (by omega) (by omega)).trans hp), show ((n + 1 : Nat) : Int) = (n : Int) + 1 by omega] at H2
    by_cases hn : n = 0
    · subst hn
      have hb : decide (0 ≤ mrgL l o u 0 ∧ (0 = 0 ∨ mrgL l o u (0 - 1) ≤ 0)) = decide (0 ≤ mrgL l o u 0) := by simp
      rw [hb] at H0
      clear H3 hb ho hu hl hp
      generalize mrgL l o u 0 = up at *
      generalize mrgL l o u (0 + 1) = nx at *
      have d1 : decide (up ≤ nx) = true := decide_eq_true m1
      by_cases hup : 0 ≤ up
      · rw [decide_eq_true hup] at H0
        go_enter Try.func12, Try.ntmps12
        go_wp2_with fail
        refine H0.out.mono ?_
        rintro e w1 ⟨rfl, rfl⟩
        go_wp2_with fail
        refine H1.out.mono ?_
        rintro e w1 ⟨rfl, rfl⟩
        go_wp2_with fail
        refine H2.out.mono ?_
        rintro e w1 ⟨rfl, rfl⟩
        go_wp2_with fail
        refine (known6_any _).mono ?_
        rintro e w2 ⟨hb, rfl⟩
        have P1 := hid (P0.out.trans (hb.mono P0.out.size))
        clear hb
        go_wp2
        go_ret
        exact ⟨P1.out, rfl⟩
      · rw [decide_eq_false hup] at H0
        have hup' : up < 0 := by omega
        have hup2 : decide (0 ≤ up) = false := decide_eq_false hup
        clear hup
        go_enter Try.func12, Try.ntmps12
        go_wp2_with fail
        refine H0.out.mono ?_
        rintro e w1 ⟨rfl, rfl⟩
        go_wp2_with fail
        refine H1.out.mono ?_
        rintro e w1 ⟨rfl, rfl⟩
        go_wp2_with fail
        refine H2.out.mono ?_
        rintro e w1 ⟨rfl, rfl⟩
        go_wp2_with fail
        refine (known6_any _).mono ?_
        rintro e w2 ⟨hb, rfl⟩
        have P1 := hid (P0.out.trans (hb.mono P0.out.size))
        clear hb
        go_wp2
        go_ret
        exact ⟨P1.out, rfl⟩
    · have hq2 : (0 : Int) < (n : Int) := by omega
      have H3 := hid (H3.out hq2)
      rw [show (n : Int) - 1 = ((n - 1 : Nat) : Int) by omega, mrgV_ok ((portE_q (by omega) (by omega)).trans hp), show ((n - 1 : Nat) : Int) = (n : Int) - 1 by omega] at H3
      have m2 := mrg_mono hl.nn o u ho.1 hu.1 (n - 1)
      rw [show n - 1 + 1 = n by omega] at m2
      have hb : decide (0 ≤ mrgL l o u n ∧ (n = 0 ∨ mrgL l o u (n - 1) ≤ 0)) = (decide (0 ≤ mrgL l o u n) && decide (mrgL l o u (n - 1) ≤ 0)) := by
        rw [← Bool.decide_and]
        exact decide_eq_decide.2 ⟨fun h => ⟨h.1, h.2.resolve_left hn⟩, fun h => ⟨h.1, .inr h.2⟩⟩
      rw [hb] at H0
      have hnz : ((n : Int) == 0) = false := by rw [beq_eq_false_iff_ne]; omega
      clear hb ho hu hl hp hn
      generalize mrgL l o u n = up at *
      generalize mrgL l o u (n + 1) = nx at *
      generalize mrgL l o u (n - 1) = dn at *
      have d1 : decide (up ≤ nx) = true := decide_eq_true m1
      have d2 : decide (dn ≤ up) = true := decide_eq_true m2
      by_cases hup : 0 ≤ up
      · have e1 : decide (0 ≤ up) = true := decide_eq_true hup
        rw [e1] at H0
        by_cases hdn : dn ≤ 0
        · have e2 : decide (dn ≤ 0) = true := decide_eq_true hdn
          rw [e2] at H0
          go_enter Try.func12, Try.ntmps12
          go_wp2_with fail
          refine H0.out.mono ?_
          rintro e w1 ⟨rfl, rfl⟩
          go_wp2_with fail
          refine H1.out.mono ?_
          rintro e w1 ⟨rfl, rfl⟩
          go_wp2_with fail
          refine H2.out.mono ?_
          rintro e w1 ⟨rfl, rfl⟩
          go_wp2_with fail
          refine H3.out.mono ?_
          rintro e w1 ⟨rfl, rfl⟩
          go_wp2_with fail
          refine (known6_any _).mono ?_
          rintro e w2 ⟨hb, rfl⟩
          have P1 := hid (P0.out.trans (hb.mono P0.out.size))
          clear hb
          go_wp2
          go_ret
          exact ⟨P1.out, rfl⟩
        · have e2 : decide (dn ≤ 0) = false := decide_eq_false hdn
          have hdn' : 0 < dn := by omega
          rw [e2] at H0
          clear hdn
          go_enter Try.func12, Try.ntmps12
          go_wp2_with fail
          refine H0.out.mono ?_
          rintro e w1 ⟨rfl, rfl⟩
          go_wp2_with fail
          refine H1.out.mono ?_
          rintro e w1 ⟨rfl, rfl⟩
          go_wp2_with fail
          refine H2.out.mono ?_
          rintro e w1 ⟨rfl, rfl⟩
          go_wp2_with fail
          refine H3.out.mono ?_
          rintro e w1 ⟨rfl, rfl⟩
          go_wp2_with fail
          refine (known6_any _).mono ?_
          rintro e w2 ⟨hb, rfl⟩
          have P1 := hid (P0.out.trans (hb.mono P0.out.size))
          clear hb
          go_wp2
          go_ret
          exact ⟨P1.out, rfl⟩
      · have e1 : decide (0 ≤ up) = false := decide_eq_false hup
        have hup' : up < 0 := by omega
        rw [e1] at H0
        clear hup
        by_cases hdn : dn ≤ 0
        · have e2 : decide (dn ≤ 0) = true := decide_eq_true hdn
          rw [e2] at H0
          go_enter Try.func12, Try.ntmps12
          go_wp2_with fail
          refine H0.out.mono ?_
          rintro e w1 ⟨rfl, rfl⟩
          go_wp2_with fail
          refine H1.out.mono ?_
          rintro e w1 ⟨rfl, rfl⟩
          go_wp2_with fail
          refine H2.out.mono ?_
          rintro e w1 ⟨rfl, rfl⟩
          go_wp2_with fail
          refine H3.out.mono ?_
          rintro e w1 ⟨rfl, rfl⟩
          go_wp2_with fail
          refine (known6_any _).mono ?_
          rintro e w2 ⟨hb, rfl⟩
          have P1 := hid (P0.out.trans (hb.mono P0.out.size))
          clear hb
          go_wp2
          go_ret
          exact ⟨P1.out, rfl⟩
        · exact absurd m2 (by omega)
  · rw [bstV_no hp] at H0
    rw [mrgV_no hp] at H1
    rw [mrgV_no ((portE_q (by omega) (by omega)).trans hp)] at H2
    clear H3 hp
    go_enter Try.func12, Try.ntmps12
    go_wp2_with fail
    refine H0.out.mono ?_
    rintro e w1 ⟨rfl, rfl⟩
    go_wp2_with fail
    refine H1.out.mono ?_
    rintro e w1 ⟨rfl, rfl⟩
    go_wp2_with fail
    refine H2.out.mono ?_
    rintro e w1 ⟨rfl, rfl⟩
    go_wp2_with fail
    refine (known6_any _).mono ?_
    rintro e w2 ⟨hb, rfl⟩
    have P1 := hid (P0.out.trans (hb.mono P0.out.size))
    clear hb
    go_wp2
    go_ret
    exact ⟨P1.out, rfl⟩
end Go.Proofs.Ytfjncmhbpfcdiaa
