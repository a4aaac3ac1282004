/- Common divisors and lowest terms: the document's own, and package guess's. -/
import Derived.Test.YtfjncmhbpfcdiabGuA
import Derived.IntWalk
import Derived.RegionTactic
import Derived.ChangeAlike
set_option linter.unusedVariables false
namespace Go.Proofs.Ytfjncmhbpfcdiab
open Go.RowKit

theorem gcd_step (x y : Nat) (h : 0 < y) : Nat.gcd x y = Nat.gcd y (x % y) := by
  rw [Nat.gcd_comm, Nat.gcd_rec, Nat.gcd_comm]
theorem tmod_nat (x y : Nat) : Int.tmod (x : Int) (y : Int) = ((x % y : Nat) : Int) := by
  rw [Int.tmod_eq_emod_of_nonneg (by omega)]; omega
theorem tdiv_nat (x y : Nat) : Int.tdiv (x : Int) (y : Int) = ((x / y : Nat) : Int) := by
  rw [Int.tdiv_eq_ediv_of_nonneg (by omega)]; omega

set_option maxRecDepth 100000 in
set_option maxHeartbeats 1000000 in
theorem rgcd_any (X Y : Nat) (w : World) (hX : X ≤ 9223372036854775807) (hY : Y ≤ 9223372036854775807) :
  Calls Try.prog 25 #[.int .i64 (X : Int), .int .i64 (Y : Int)] w (fun en w' => w = w' ∧ en = .returned (.int .i64 (Nat.gcd X Y : Nat))) := by
  go_enter Try.func25, Try.ntmps25
  go_wp2
  go_loop [0, 1] (fun a b => ∃ x y : Nat, a = .int .i64 (x : Int) ∧ b = .int .i64 (y : Int) ∧ x ≤ 9223372036854775807 ∧ y ≤ 9223372036854775807 ∧ Hid (Nat.gcd X Y = Nat.gcd x y)) (fun _ b => (intOf b).toNat)
  case atStart => exact ⟨X, Y, rfl, rfl, hX, hY, rfl⟩
  case round =>
    obtain ⟨x, y, rfl, rfl, hx, hy, HG⟩ := hrel
    by_cases hp : 0 < y
    · have HN := hid (HG.out.trans (gcd_step x y hp))
      have hlt := Nat.mod_lt x hp
      have hy0 : (0 : Int) < (y : Int) := by omega
      have hyne : ((y : Int) != 0) = true := by simp; omega
      have HM := hid (show (x : Int) % (y : Int) = ((x % y : Nat) : Int) by omega)
      go_wp2
      go_round
      case rel => exact ⟨y, x % y, rfl, by rw [← HM.out], by omega, by omega, HN⟩
      case measure => simp [intOf]; omega
    · obtain rfl : y = 0 := by omega
      have HE := hid (show ((x : Nat) : Int) = ((Nat.gcd X Y : Nat) : Int) by rw [HG.out, Nat.gcd_zero_right])
      go_wp2
      go_ret
      exact ⟨rfl, ret_int HE.out⟩

/-- A fraction in lowest terms. -/
def fracL (x y : Nat) : Int × Int := (((x / Nat.gcd x y : Nat) : Int), ((y / Nat.gcd x y : Nat) : Int))
def RatR (w : World) (p : Int × Int) (en : Ending) (w' : World) : Prop := Below w.heap.size w w' ∧ en = .returned (.agg #[.int .i64 p.1, .int .i64 p.2])
/-- A variable of two cells that may be written. -/
def Var2 (w : World) (g : Nat) (c : Int × Int) : Prop := w.cell? ⟨g, 0, none⟩ = some (.int .i64 c.1) ∧ w.cell? ⟨g, 1, none⟩ = some (.int .i64 c.2) ∧ w.frozen? ⟨g, 0, none⟩ = false ∧ w.frozen? ⟨g, 1, none⟩ = false
theorem Var2.keep {w w2 : World} {g : Nat} {c : Int × Int} (h : Var2 w g c) (hb : Below w.heap.size w w2) : Var2 w2 g c := by
  obtain ⟨a0, a1, f0, f1⟩ := h
  exact ⟨by rw [hb.cell (cell_lt a0)]; exact a0, by rw [hb.cell (cell_lt a1)]; exact a1, by rw [hb.frozen (cell_lt a0)]; exact f0, by rw [hb.frozen (cell_lt a1)]; exact f1⟩
theorem set2_cells (w : World) (b : Nat) (u0 u1 v0 v1 : Value) (h0 : w.cell? ⟨b, 0, none⟩ = some v0) (h1 : w.cell? ⟨b, 1, none⟩ = some v1) :
    ((w.setCell ⟨b, 0, none⟩ u0).setCell ⟨b, 1, none⟩ u1).cell? ⟨b, 0, none⟩ = some u0 ∧
    ((w.setCell ⟨b, 0, none⟩ u0).setCell ⟨b, 1, none⟩ u1).cell? ⟨b, 1, none⟩ = some u1 := by
  refine ⟨by go_simp, by go_simp⟩
theorem Var2.made (w : World) : Var2 (w.alloc (.cells #[.int .i64 0, .int .i64 0] 28)) w.heap.size (0, 0) := ⟨by go_simp, by go_simp, by go_simp, by go_simp⟩

set_option maxRecDepth 100000 in
set_option maxHeartbeats 1000000 in
theorem fraction_any (x y : Nat) (w : World) (hx : x ≤ 9223372036854775807) (hy : y ≤ 9223372036854775807) (hp : 0 < y) :
  Calls Try.prog 20 #[.int .i64 (x : Int), .int .i64 (y : Int)] w (RatR w (fracL x y)) := by
  have HC := hid (fun w => rgcd_any x y w hx hy)
  have hg : 0 < Nat.gcd x y := Nat.gcd_pos_of_pos_right _ hp
  have h1 := tdiv_nat x (Nat.gcd x y)
  have h2 := tdiv_nat y (Nat.gcd x y)
  have b1 := Nat.div_le_self x (Nat.gcd x y)
  have b2 := Nat.div_le_self y (Nat.gcd x y)
  have HF := hid (show fracL x y = (((x / Nat.gcd x y : Nat) : Int), ((y / Nat.gcd x y : Nat) : Int)) from rfl)
  have hB0 := (Below.refl w.heap.size w).alloc (Nat.le_refl _) (.cells #[.int .i64 0, .int .i64 0] 28)
  have HV := hid (Var2.made w)
  generalize x / Nat.gcd x y = p at *
  generalize y / Nat.gcd x y = q at *
  generalize Nat.gcd x y = g at *
  have H1 := hid h1
  have H2 := hid h2
  clear h1 h2
  obtain ⟨w1, hw1⟩ : ∃ w1, w.alloc (.cells #[.int .i64 0, .int .i64 0] 28) = w1 := ⟨_, rfl⟩
  rw [hw1] at HV hB0
  go_enter Try.func20, Try.ntmps20
  go_wp2_with fail
  clear hw1
  refine (HC.out _).mono ?_
  rintro e w' ⟨rfl, rfl⟩
  obtain ⟨a0, a1, f0, f1⟩ := HV.out
  obtain ⟨t0, t1⟩ := set2_cells w1 w.heap.size (.int .i64 (p : Int)) (.int .i64 (q : Int)) _ _ a0 a1
  have HB := hid (((hB0.setCell (p := ⟨w.heap.size, 0, none⟩) (Nat.le_refl _) (.int .i64 (p : Int))).setCell (p := ⟨w.heap.size, 1, none⟩) (Nat.le_refl _) (.int .i64 (q : Int))).drew)
  have h1 := H1.out
  have h2 := H2.out
  have hgz : (g : Int) ≠ 0 := by omega
  have hw1 : IntKind.i64.wrap (p : Int) = (p : Int) := IntWalk.i64_in _ (by omega)
  have hw2 : IntKind.i64.wrap (q : Int) = (q : Int) := IntWalk.i64_in _ (by omega)
  go_wp2
  go_region
  all_goals
    go_wp2
    exact bodyPost_ret (v := .agg #[.int .i64 (p : Int), .int .i64 (q : Int)]) (by simp [results, Try.results20, go_sem, t0, t1]) rfl ⟨HB.out, by rw [HF.out]⟩

theorem gCdiv_rec (Y : Nat) : ∀ (X : Nat) (w : World), X ≤ 9223372036854775807 → Y ≤ 9223372036854775807 → Calls Try.prog 22 #[.int .i64 (X : Int), .int .i64 (Y : Int)] w (NumG w (Nat.gcd X Y : Nat)) := by
  induction Y using Nat.strongRecOn with
  | ind Y ih =>
    intro X w hX hY
    by_cases h0 : Y = 0
    · subst h0
      have HE := hid (show Nat.gcd X 0 = X from Nat.gcd_zero_right X)
      clear ih
      go_enter Try.func22, Try.ntmps22
      go_wp2
      go_ret
      exact ⟨rfl, by rw [HE.out]; rfl⟩
    · have hp : 0 < Y := by omega
      have HR := hid (ih (X % Y) (Nat.mod_lt X hp) Y w hY (by have := Nat.mod_lt X hp; omega))
      rw [← gcd_step X Y hp] at HR
      have hm := tmod_nat X Y
      have hlt := Nat.mod_lt X hp
      have hz : (Y : Int) ≠ 0 := by omega
      have hz1 : ((Y : Int) == 0) = false := by rw [beq_eq_false_iff_ne]; omega
      have hz2 : (0 : Int) < (Y : Int) := by omega
      generalize hgd : Nat.gcd X Y = gd at *
      have HG := hid hgd
      generalize X % Y = r at *
      have hm2 : (X : Int) % (Y : Int) = (r : Int) := by rw [← hm, Int.tmod_eq_emod_of_nonneg (by omega)]
      clear ih hgd
      go_enter Try.func22, Try.ntmps22
      go_wp2_with fail
      refine HR.out.mono ?_
      rintro e w1 ⟨rfl, rfl⟩
      go_wp2
      go_ret
      exact ⟨rfl, by first | rfl | (rw [HG.out]; rfl)⟩
end Go.Proofs.Ytfjncmhbpfcdiab
