/- Which dishes are worse: the document's own; the walk of the law GuessWorse. -/
import Derived.Test.YtfjncmhbpfcdiabGuWo
import Derived.Test.YtfjncmhbpfcdiabGuTr
set_option linter.unusedVariables false
namespace Go.Proofs.Ytfjncmhbpfcdiab
open Go.RowKit

theorem worseV_no {a l p q : Int} (h : ¬ (compB a l = true ∧ levelB p q = true)) : worseV a l p q = (false, 1) := by
  unfold worseV; rw [if_neg h]
theorem fracL_one {x y : Nat} (h : Nat.gcd x y = 1) : fracL x y = ((x : Int), (y : Int)) := by
  unfold fracL; rw [h, Nat.div_one, Nat.div_one]
theorem fracL_not {x y : Nat} (h : Nat.gcd x y ≠ 1) (hy : 0 < y) : (fracL x y).2 ≠ (y : Int) := by
  have hg : 0 < Nat.gcd x y := Nat.gcd_pos_of_pos_right _ hy
  have h2 : 2 ≤ Nat.gcd x y := by omega
  have h3 : y / Nat.gcd x y < y := Nat.div_lt_self hy h2
  unfold fracL
  dsimp only
  omega
def BoxR (w0 : World) (g : Nat) (p q : Int) (w : World) : Prop := w.cell? ⟨g, 0, none⟩ = some (.int .i64 p) ∧ w.cell? ⟨g, 1, none⟩ = some (.int .i64 q) ∧ Below w0.heap.size w0 w
theorem BoxR.keep {w0 : World} {g : Nat} {p q : Int} {w w2 : World} (h : BoxR w0 g p q w) (hb : Below w.heap.size w w2) : BoxR w0 g p q w2 := by
  obtain ⟨a0, a1, b⟩ := h
  exact ⟨by rw [hb.cell (cell_lt a0)]; exact a0, by rw [hb.cell (cell_lt a1)]; exact a1, b.trans (hb.mono b.size)⟩
set_option maxRecDepth 100000 in
set_option maxHeartbeats 4000000 in
theorem grWorse_any (a l p q : Int) (w : World) (ba : -9223372036854775808 ≤ a ∧ a ≤ 9223372036854775807) (bl : -9223372036854775808 ≤ l ∧ l ≤ 9223372036854775807) : Calls Try.prog 10 #[.int .i64 a, .int .i64 l, .agg #[.int .i64 p, .int .i64 q]] w (BelW w (worseV a l p q)) := by
  have HE := hid (show worseV a l p q = if compB a l = true ∧ levelB p q = true then (decide ((tailN (a + l).toNat l.toNat : Int) * q ≤ p * 2 ^ (a + l).toNat), 0) else (false, 1) from rfl)
  have HB0 := hid ((Below.refl w.heap.size w).alloc (Nat.le_refl _) (.cells #[.int .i64 p, .int .i64 q] 28))
  have S0 := hid (show BoxR w w.heap.size p q (w.alloc (.cells #[.int .i64 p, .int .i64 q] 28)) from ⟨by go_simp, by go_simp, HB0.out⟩)
  by_cases hb : 0 ≤ a
  case neg =>
    have hb0 : a < 0 := by omega
    rw [worseV_no (fun h => hb (comp_ok h.1).1.1)]
    clear hb HE S0
    go_enter Try.func10, Try.ntmps10
    go_wp2
    go_ret2
    exact ⟨HB0.out, rfl⟩
  have hc0 := hb
  clear hb
  by_cases hb : a ≤ 40
  case neg =>
    have hb1 : 40 < a := by omega
    rw [worseV_no (fun h => hb (comp_ok h.1).1.2)]
    clear hb HE S0
    go_enter Try.func10, Try.ntmps10
    go_wp2
    go_ret2
    exact ⟨HB0.out, rfl⟩
  have hc1 := hb
  clear hb
  by_cases hb : 0 ≤ l
  case neg =>
    have hb2 : l < 0 := by omega
    rw [worseV_no (fun h => hb (comp_ok h.1).2.1)]
    clear hb HE S0
    go_enter Try.func10, Try.ntmps10
    go_wp2
    go_ret2
    exact ⟨HB0.out, rfl⟩
  have hc2 := hb
  clear hb
  by_cases hb : l ≤ 40 - a
  case neg =>
    have hb3 : 40 - a < l := by omega
    rw [worseV_no (fun h => hb (comp_ok h.1).2.2)]
    clear hb HE S0
    go_enter Try.func10, Try.ntmps10
    go_wp2
    go_ret2
    exact ⟨HB0.out, rfl⟩
  have hc3 := hb
  clear hb
  by_cases hb : 1 ≤ q
  case neg =>
    have he0 : q < 1 := by omega
    have hd0a : decide (q < 1) = true := decide_eq_true he0
    rw [worseV_no (fun h => hb (level_ok h.2).2.1.1)]
    clear hb HE S0
    go_enter Try.func10, Try.ntmps10
    go_wp2
    go_quiet (fail)
    go_wp2
    go_ret2
    exact ⟨below_drewN HB0.out nq, rfl⟩
  have hd0 := hb
  have hd0b : decide (q < 1) = false := decide_eq_false (by omega)
  have hd0c : (q < 1) = False := by simp; omega
  clear hb
  by_cases hb : q ≤ 1000
  case neg =>
    have he1 : 1000 < q := by omega
    have hd1a : decide (1000 < q) = true := decide_eq_true he1
    rw [worseV_no (fun h => hb (level_ok h.2).2.1.2)]
    clear hb HE S0
    go_enter Try.func10, Try.ntmps10
    go_wp2
    go_quiet (fail)
    go_wp2
    go_ret2
    exact ⟨below_drewN HB0.out nq, rfl⟩
  have hd1 := hb
  have hd1b : decide (1000 < q) = false := decide_eq_false (by omega)
  have hd1c : (1000 < q) = False := by simp; omega
  clear hb
  by_cases hb : 0 ≤ p
  case neg =>
    have he2 : p < 0 := by omega
    have hd2a : decide (p < 0) = true := decide_eq_true he2
    rw [worseV_no (fun h => hb (level_ok h.2).1.1)]
    clear hb HE S0
    go_enter Try.func10, Try.ntmps10
    go_wp2
    go_quiet (fail)
    go_wp2
    go_ret2
    exact ⟨below_drewN HB0.out nq, rfl⟩
  have hd2 := hb
  have hd2b : decide (p < 0) = false := decide_eq_false (by omega)
  have hd2c : (p < 0) = False := by simp; omega
  clear hb
  by_cases hb : p ≤ q
  case neg =>
    have he3 : q < p := by omega
    have hd3a : decide (q < p) = true := decide_eq_true he3
    rw [worseV_no (fun h => hb (level_ok h.2).1.2)]
    clear hb HE S0
    go_enter Try.func10, Try.ntmps10
    go_wp2
    go_quiet (fail)
    go_wp2
    go_ret2
    exact ⟨below_drewN HB0.out nq, rfl⟩
  have hd3 := hb
  have hd3b : decide (q < p) = false := decide_eq_false (by omega)
  have hd3c : (q < p) = False := by simp; omega
  clear hb
  obtain ⟨x, rfl⟩ := Int.eq_ofNat_of_zero_le hd2
  obtain ⟨y, rfl⟩ := Int.eq_ofNat_of_zero_le (show 0 ≤ q by omega)
  have HF := hid (fun W => fraction_any x y W (by omega) (by omega) (by omega))
  obtain ⟨n, rfl⟩ := Int.eq_ofNat_of_zero_le hc0
  obtain ⟨k, rfl⟩ := Int.eq_ofNat_of_zero_le hc2
  have hcomp : compB (n : Int) (k : Int) = true := by simp [compB, cinB]; omega
  by_cases hg : Nat.gcd x y = 1
  · rw [fracL_one hg] at HF
    have HF := hid (fun W => (HF.out W).mono fun en w' hh => (show Below W.heap.size W w' ∧ en = .returned (.agg #[.int .i64 (x : Int), .int .i64 (y : Int)]) from hh))
    have hlev : levelB (x : Int) (y : Int) = true := by simp [levelB, cinB, hg]; omega
    have HE2 := hid ((HE.out).trans (if_pos ⟨hcomp, hlev⟩))
    rw [show ((n : Int) + (k : Int)).toNat = n + k by omega, Int.toNat_natCast] at HE2
    have hxy : n + k ≤ 40 := by omega
    have HT := hid (fun W => grTail_any (n + k) k hxy (by omega) W)
    rw [Int.natCast_add] at HT
    obtain ⟨b1, b2⟩ := worse_nums (l := k) hxy (p := (x : Int)) (q := (y : Int)) (by omega) (by omega)
    have b3 := tailTo_bd (n + k) k (n + k + 1) hxy
    rw [show tailTo (n + k) k (n + k + 1) = tailN (n + k) k from rfl] at b3
    generalize tailN (n + k) k = tt at *
    have hw1 : IntKind.i64.wrap ((tt : Int) * (y : Int)) = (tt : Int) * (y : Int) := IntWalk.i64_in _ (by omega)
    have hw2 : IntKind.i64.wrap ((x : Int) * (2 : Int) ^ (n + k)) = (x : Int) * (2 : Int) ^ (n + k) := IntWalk.i64_in _ (by omega)
    have hw3 : IntKind.i64.wrap ((n : Int) + (k : Int)) = (n : Int) + (k : Int) := IntWalk.i64_in _ (by omega)
    have ht3 : ((n : Int) + (k : Int)).toNat = n + k := by omega
    have ht4 : 0 ≤ (n : Int) + (k : Int) := by omega
    clear hg hlev hcomp HE
    go_enter Try.func10, Try.ntmps10
    go_wp2
    go_region_held3 (fun w' => w'.cell? ⟨w.heap.size, 0, none⟩ = some (.int .i64 (x : Int)) ∧ w'.cell? ⟨w.heap.size, 1, none⟩ = some (.int .i64 (y : Int)) ∧ Below w.heap.size w w') (first | exact S0.out | exact S0.out.keep (Below.refl _ _).drew | assumption | exact BoxR.keep (by assumption) (by assumption))
      ((go_at_call 20; refine (HF.out _).mono ?_; rintro en w4 ⟨hb4, rfl⟩))
    rename _ ∧ _ ∧ Below w.heap.size w w4 => hH4
    have S4 := hid (show BoxR w w.heap.size (x : Int) (y : Int) w4 from hH4)
    clear hH4 hb4
    go_wp2
    go_region_held3 (fun w' => w'.cell? ⟨w.heap.size, 0, none⟩ = some (.int .i64 (x : Int)) ∧ w'.cell? ⟨w.heap.size, 1, none⟩ = some (.int .i64 (y : Int)) ∧ Below w.heap.size w w') (first | exact S4.out | exact S4.out.keep (Below.refl _ _).drew | assumption | exact BoxR.keep (by assumption) (by assumption))
      ((go_at_call 15; refine (HT.out _).mono ?_; rintro en w6 ⟨hb6, rfl⟩))
    rename _ ∧ _ ∧ Below w.heap.size w w6 => hH6
    have P6 := hid hH6.2.2
    clear hH6 hb6
    go_wp2
    go_ret2
    exact ⟨P6.out, by rw [HE2.out]; rfl⟩
  · have hne := fracL_not hg (by omega)
    have hlev : ¬ (compB (n : Int) (k : Int) = true ∧ levelB (x : Int) (y : Int) = true) := fun h => hg (by have := (level_ok h.2).2.2; rw [Int.toNat_natCast, Int.toNat_natCast] at this; exact this)
    rw [worseV_no hlev]
    generalize hff : fracL x y = ff at *
    obtain ⟨fx, fy⟩ := ff
    have HF := hid (fun W => (HF.out W).mono fun en w' hh => (show Below W.heap.size W w' ∧ en = .returned (.agg #[.int .i64 fx, .int .i64 fy]) from hh))
    have hne2 : ¬ fy = (y : Int) := hne
    have hne3 : (fy == (y : Int)) = false := by rw [beq_eq_false_iff_ne]; exact hne2
    clear hff hne hlev hg HE hcomp
    go_enter Try.func10, Try.ntmps10
    go_wp2
    go_region_held3 (fun w' => w'.cell? ⟨w.heap.size, 0, none⟩ = some (.int .i64 (x : Int)) ∧ w'.cell? ⟨w.heap.size, 1, none⟩ = some (.int .i64 (y : Int)) ∧ Below w.heap.size w w') (first | exact S0.out | exact S0.out.keep (Below.refl _ _).drew | assumption | exact BoxR.keep (by assumption) (by assumption))
      ((go_at_call 20; refine (HF.out _).mono ?_; rintro en w4 ⟨hb4, rfl⟩))
    rename _ ∧ _ ∧ Below w.heap.size w w4 => hH4
    have P4 := hid hH4.2.2
    clear hH4 hb4
    go_wp2
    go_ret2
    exact ⟨P4.out, rfl⟩
end Go.Proofs.Ytfjncmhbpfcdiab
