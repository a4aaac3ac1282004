/- The walk of the law GuessWorse. -/
import Derived.Test.YtfjncmhbpfcdiabGuWr
set_option linter.unusedVariables false
namespace Go.Proofs.Ytfjncmhbpfcdiab
open Go.RowKit

/-- More losses do not make a dish better. -/
theorem worse_more {a l p q : Int} (h : (worseV a l p q).1 = true) : worseV a (l + 1) p q = (true, 0) ∨ worseV a (l + 1) p q = (false, 1) := by
  by_cases h2 : compB a (l + 1) = true ∧ levelB p q = true
  · left
    obtain ⟨hc2, hlv⟩ := h2
    obtain ⟨ha, hl2⟩ := comp_ok hc2
    by_cases h1 : compB a l = true ∧ levelB p q = true
    · obtain ⟨hc1, _⟩ := h1
      obtain ⟨_, hl1⟩ := comp_ok hc1
      obtain ⟨hp, hq, _⟩ := level_ok hlv
      unfold worseV at h ⊢
      rw [if_pos ⟨hc1, hlv⟩] at h
      rw [if_pos ⟨hc2, hlv⟩]
      obtain ⟨x, rfl⟩ := Int.eq_ofNat_of_zero_le ha.1
      obtain ⟨y, rfl⟩ := Int.eq_ofNat_of_zero_le hl1.1
      rw [show ((x : Int) + (y : Int)).toNat = x + y by omega, Int.toNat_natCast, decide_eq_true_eq] at h
      rw [show ((x : Int) + ((y : Int) + 1)).toNat = x + y + 1 by omega, show ((y : Int) + 1).toNat = y + 1 by omega]
      have ht : (tailN (x + y + 1) (y + 1) : Int) ≤ 2 * (tailN (x + y) y : Int) := by have := tailN_twice (x + y) y; omega
      have h3 := Int.mul_le_mul_of_nonneg_right ht (show 0 ≤ q by omega)
      have h4 : p * (2 : Int) ^ (x + y + 1) = 2 * (p * (2 : Int) ^ (x + y)) := by rw [Int.pow_succ, ← Int.mul_assoc, Int.mul_comm]
      rw [Int.mul_assoc] at h3
      exact Prod.ext (decide_eq_true (by rw [h4]; omega)) rfl
    · rw [worseV_no h1] at h; cases h
  · right; exact worseV_no h2
theorem worse_cases (a l p q : Int) : (worseV a l p q).1 = true ∧ worseV a l p q = (true, 0) ∧ 0 ≤ l ∧ l ≤ 40 ∨ ∃ e, worseV a l p q = (false, e) := by
  by_cases h1 : compB a l = true ∧ levelB p q = true
  · obtain ⟨ha, hl⟩ := comp_ok h1.1
    unfold worseV
    rw [if_pos h1]
    by_cases hd : (tailN (a + l).toNat l.toNat : Int) * q ≤ p * 2 ^ (a + l).toNat
    · left; exact ⟨decide_eq_true hd, Prod.ext (decide_eq_true hd) rfl, hl.1, by omega⟩
    · right; exact ⟨0, Prod.ext (decide_eq_false hd) rfl⟩
  · right; exact ⟨1, worseV_no h1⟩
set_option maxRecDepth 100000 in
set_option maxHeartbeats 4000000 in
theorem guessWorse_walk (a l p q : Int) (w : World) (ba : -9223372036854775808 ≤ a ∧ a ≤ 9223372036854775807) (bl : -9223372036854775808 ≤ l ∧ l ≤ 9223372036854775807) (bp : -9223372036854775808 ≤ p ∧ p ≤ 9223372036854775807) (bq : -9223372036854775808 ≤ q ∧ q ≤ 9223372036854775807) :
  Calls Try.prog 4 #[.int .i64 a, .int .i64 l, .agg #[.int .i64 p, .int .i64 q]] w (BoolR w true) := by
  have P0 := hid ((Below.refl w.heap.size w).alloc (Nat.le_refl _) (.cells #[.int .i64 p, .int .i64 q] 28))
  have x0 : (w.alloc (.cells #[.int .i64 p, .int .i64 q] 28)).cell? ⟨w.heap.size, 0, none⟩ = some (.int .i64 p) := by go_simp
  have x1 : (w.alloc (.cells #[.int .i64 p, .int .i64 q] 28)).cell? ⟨w.heap.size, 1, none⟩ = some (.int .i64 q) := by go_simp
  generalize hwB : w.alloc (.cells #[.int .i64 p, .int .i64 q] 28) = wB at *
  have HBx := hid (fun W (hb : Below wB.heap.size wB W) => (show W.cell? ⟨w.heap.size, 0, none⟩ = some (.int .i64 p) ∧ W.cell? ⟨w.heap.size, 1, none⟩ = some (.int .i64 q) from ⟨by rw [hb.cell (cell_lt x0)]; exact x0, by rw [hb.cell (cell_lt x1)]; exact x1⟩))
  have H1 := hid (fun W => gWorse_any a l p q W ba bl)
  have H2 := hid (fun W => grWorse_any a l p q W ba bl)
  rcases worse_cases a l p q with ⟨hv, he, hl0, hl40⟩ | ⟨ee, he⟩
  · have H3 := hid (fun W => gWorse_any a (l + 1) p q W ba (by omega))
    rw [he] at H1 H2
    rcases worse_more hv with hm | hm
    · rw [hm] at H3
      clear hv he hm
      go_enter Try.func4, Try.ntmps4
      go_wp2_with fail
      refine (H1.out _).mono ?_
      rintro e w1 ⟨q1, rfl⟩
      have P1 := hid (P0.out.trans (q1.mono P0.out.size))
      have b0 := (HBx.out _ q1).1
      have b1 := (HBx.out _ q1).2
      have Q1 := hid q1
      clear q1
      go_wp2_with fail
      refine (H2.out _).mono ?_
      rintro e w2 ⟨q2, rfl⟩
      have P2 := hid (P1.out.trans (q2.mono P1.out.size))
      have Q2 := hid (Q1.out.trans (q2.mono Q1.out.size))
      clear b0 b1 q2
      have b0 := (HBx.out _ Q2.out).1
      have b1 := (HBx.out _ Q2.out).2
      go_wp2_with fail
      refine (H3.out _).mono ?_
      rintro e w3 ⟨q3, rfl⟩
      have P3 := hid (P2.out.trans (q3.mono P2.out.size))
      clear b0 b1 q3
      go_wp2_with fail
      refine (known6_any _).mono ?_
      rintro e wz ⟨hb, rfl⟩
      have PZ := hid (P3.out.trans (hb.mono P3.out.size))
      clear hb
      go_wp2
      go_ret
      exact ⟨PZ.out, rfl⟩
    · rw [hm] at H3
      clear hv he hm
      go_enter Try.func4, Try.ntmps4
      go_wp2_with fail
      refine (H1.out _).mono ?_
      rintro e w1 ⟨q1, rfl⟩
      have P1 := hid (P0.out.trans (q1.mono P0.out.size))
      have b0 := (HBx.out _ q1).1
      have b1 := (HBx.out _ q1).2
      have Q1 := hid q1
      clear q1
      go_wp2_with fail
      refine (H2.out _).mono ?_
      rintro e w2 ⟨q2, rfl⟩
      have P2 := hid (P1.out.trans (q2.mono P1.out.size))
      have Q2 := hid (Q1.out.trans (q2.mono Q1.out.size))
      clear b0 b1 q2
      have b0 := (HBx.out _ Q2.out).1
      have b1 := (HBx.out _ Q2.out).2
      go_wp2_with fail
      refine (H3.out _).mono ?_
      rintro e w3 ⟨q3, rfl⟩
      have P3 := hid (P2.out.trans (q3.mono P2.out.size))
      clear b0 b1 q3
      go_wp2_with fail
      refine (known6_any _).mono ?_
      rintro e wz ⟨hb, rfl⟩
      have PZ := hid (P3.out.trans (hb.mono P3.out.size))
      clear hb
      go_wp2
      go_ret
      exact ⟨PZ.out, rfl⟩
  · rw [he] at H1 H2
    by_cases hlm : l ≤ 9223372036854775806
    · have H3 := hid (fun W => gWorse_any a (l + 1) p q W ba (by omega))
      generalize worseV a (l + 1) p q = m at *
      obtain ⟨m1, m2⟩ := m
      clear he
      go_enter Try.func4, Try.ntmps4
      go_wp2_with fail
      refine (H1.out _).mono ?_
      rintro e w1 ⟨q1, rfl⟩
      have P1 := hid (P0.out.trans (q1.mono P0.out.size))
      have b0 := (HBx.out _ q1).1
      have b1 := (HBx.out _ q1).2
      have Q1 := hid q1
      clear q1
      go_wp2_with fail
      refine (H2.out _).mono ?_
      rintro e w2 ⟨q2, rfl⟩
      have P2 := hid (P1.out.trans (q2.mono P1.out.size))
      have Q2 := hid (Q1.out.trans (q2.mono Q1.out.size))
      clear b0 b1 q2
      have b0 := (HBx.out _ Q2.out).1
      have b1 := (HBx.out _ Q2.out).2
      go_wp2_with fail
      refine (H3.out _).mono ?_
      rintro e w3 ⟨q3, rfl⟩
      have P3 := hid (P2.out.trans (q3.mono P2.out.size))
      clear b0 b1 q3
      go_wp2_with fail
      refine (known6_any _).mono ?_
      rintro e wz ⟨hb, rfl⟩
      have PZ := hid (P3.out.trans (hb.mono P3.out.size))
      clear hb
      go_wp2
      go_ret
      exact ⟨PZ.out, rfl⟩
    · have H3 := hid (fun W => gWorse_any a (wrap64 (l + 1)) p q W ba (by unfold wrap64; omega))
      generalize worseV a (wrap64 (l + 1)) p q = m at *
      obtain ⟨m1, m2⟩ := m
      clear bl bp bq
      clear he hlm
      go_enter Try.func4, Try.ntmps4
      go_wp2_with fail
      refine (H1.out _).mono ?_
      rintro e w1 ⟨q1, rfl⟩
      have P1 := hid (P0.out.trans (q1.mono P0.out.size))
      have b0 := (HBx.out _ q1).1
      have b1 := (HBx.out _ q1).2
      have Q1 := hid q1
      clear q1
      go_wp2_with fail
      refine (H2.out _).mono ?_
      rintro e w2 ⟨q2, rfl⟩
      have P2 := hid (P1.out.trans (q2.mono P1.out.size))
      have Q2 := hid (Q1.out.trans (q2.mono Q1.out.size))
      clear b0 b1 q2
      have b0 := (HBx.out _ Q2.out).1
      have b1 := (HBx.out _ Q2.out).2
      go_wp2_with fail
      refine (H3.out _).mono ?_
      rintro e w3 ⟨q3, rfl⟩
      have P3 := hid (P2.out.trans (q3.mono P2.out.size))
      clear b0 b1 q3
      go_wp2_with fail
      refine (known6_any _).mono ?_
      rintro e wz ⟨hb, rfl⟩
      have PZ := hid (P3.out.trans (hb.mono P3.out.size))
      clear hb
      go_wp2
      go_ret
      exact ⟨PZ.out, rfl⟩
end Go.Proofs.Ytfjncmhbpfcdiab
