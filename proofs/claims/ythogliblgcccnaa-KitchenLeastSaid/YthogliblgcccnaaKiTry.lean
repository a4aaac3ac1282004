/- The search for the best order: the closure that calls itself. -/
import Derived.Test.YthogliblgcccnaaKiTryS
import Derived.Deep.RegionHeld3
set_option linter.unusedVariables false
namespace Go.Proofs.Ythogliblgcccnaa
open Go.RowKit

def TryR (W0 : World) (a : Option Addr) (l : List Bt) (cap g b1 b2 b3 b4 b5 cp : Nat) (w : World) (o : List Int) (m : Int) (p : Nat) (en : Ending) (w' : World) : Prop :=
  en = .returned (.tuple #[]) ∧ Keep3 g b2 b3 w w' ∧ ∃ m', m' ≤ m ∧ TryS W0 a l cap g b1 b2 b3 b4 b5 cp w' o m' ∧ LowP l o p m'
set_option maxRecDepth 100000 in
set_option maxHeartbeats 4000000 in
theorem try_end {W0 : World} {a : Option Addr} {l : List Bt} {cap g b1 b2 b3 b4 b5 cp : Nat} (hD : Dist W0.heap.size g b1 b2 b3 b4 b5) (hl : BtsOk l) (hB : Bts W0 a l) (w : World) (o : List Int) (m x0 x1 c x3 pk : Int) (hS : TryS W0 a l cap g b1 b2 b3 b4 b5 cp w o m) (ho : IsOrd o l.length) (hp : pk = timeO l o) :
  Calls Try.prog 74 #[.int .i64 (l.length : Int), .agg #[.int .i64 x0, .int .i64 x1, .int .i64 c, .int .i64 x3, .int .i64 pk], .pointer (some ⟨b1, 0, none⟩), .pointer (some ⟨b2, 0, none⟩), .pointer (some ⟨b3, 0, none⟩), .pointer (some ⟨b4, 0, none⟩), .pointer (some ⟨b5, 0, none⟩)] w (TryR W0 a l cap g b1 b2 b3 b4 b5 cp w o m l.length) := by
  have hol := ho.len
  have hl7 := hl.len
  have hbx := (Below.refl w.heap.size w).alloc (Nat.le_refl _) (.cells #[.int .i64 x0, .int .i64 x1, .int .i64 c, .int .i64 x3, .int .i64 pk] 37)
  have hX : LBox (w.alloc (.cells #[.int .i64 x0, .int .i64 x1, .int .i64 c, .int .i64 x3, .int .i64 pk] 37)) w.heap.size x0 x1 c x3 pk := by unfold LBox World.alloc; simp
  have hS1 := hS.below2 hbx
  have HK := hid (Keep3.of (g := g) (b2 := b2) (b3 := b3) hbx)
  generalize hwB : w.alloc (.cells #[.int .i64 x0, .int .i64 x1, .int .i64 c, .int .i64 x3, .int .i64 pk] 37) = wB at *
  obtain ⟨e0, e1, e2, e3, e4⟩ := hX.cells
  have k1 := cell_of_one hS1.cOrd
  have k2 := cell_of_one hS1.cLst
  have f2 := free_of_one hS1.cLst
  have HS := hid hS1
  have HO := hid hol
  obtain ⟨F0, cf0, f0, h3, _⟩ := hS1.cFnd
  have k3 := cell_of_one h3
  have f3 := free_of_one h3
  have j1 : ((l.length : Int) == (o.length : Int)) = true := by simp; omega
  have j2 : (l.length : Int) ≤ (o.length : Int) := by omega
  have j3 : (o.length : Int) ≤ (l.length : Int) := by omega
  have HT := hid hp
  have HOrd := hid ho
  have HD := hid hD
  clear hS hX hS1 hD ho hp h3 hbx hol
  have hr : Below wB.heap.size wB wB := Below.refl _ _
  have HC := hid (fun W (hb : Below wB.heap.size wB W) => kclone_any (some ⟨g, 0, none⟩) o cp W ((arr_ints HS.out.arr HOrd.out hl7).below hb) (by omega))
  have lt2 : b2 < wB.heap.size := lt_of_block HS.out.cLst
  have lt3 : b3 < wB.heap.size := by obtain ⟨_, _, _, h, _⟩ := HS.out.cFnd; exact lt_of_block h
  have ltg : g < wB.heap.size := lt_of_block HS.out.arr
  have lt8 : w.heap.size < wB.heap.size := by rw [← hwB]; simp
  have n23 : b2 ≠ b3 := HD.out.d23
  have n32 : b3 ≠ b2 := Ne.symm HD.out.d23
  by_cases hlt : pk < m
  · go_enter Try.func74, Try.ntmps74
    go_wp2_with fail
    clear hwB
    go_region_with (go_at_call 73; refine (HC.out _ (by first | exact hr | exact hr.drew | exact hr.drew.drew | exact Below.drew (by assumption))).mono ?_; rintro en w4 ⟨hb4, A4, c4, rfl, hi4, hf4⟩; have z2 := (hb4.cell (p := ⟨b2, 0, none⟩) lt2).trans k2; have y2 := (hb4.frozen (p := ⟨b2, 0, none⟩) lt2).trans f2; have z3 := (hb4.cell (p := ⟨b3, 0, none⟩) lt3).trans k3; have y3 := (hb4.frozen (p := ⟨b3, 0, none⟩) lt3).trans f3; have z8 := (hb4.cell (p := ⟨w.heap.size, 4, none⟩) lt8).trans e4)
    all_goals
      have q4 : Below wB.heap.size wB w4 := by first | exact hr.drew.trans hb4 | exact hr.trans hb4 | exact hr.drew.drew.trans hb4
      have S4 := HS.out.below2 q4
      have S5 := S4.better HD.out hi4 (cf := c4) (fun ad had => by have h9 := hf4 ad had; simp only [World.size_drew] at h9; exact ⟨by omega, by omega, by omega⟩) HOrd.out HT.out.symm
      have K5 := HK.out.trans ((Keep3.of (g := g) (b2 := b2) (b3 := b3) q4).trans (better_keep w4 (.slice A4 o.length c4) (.int .i64 pk)))
      obtain ⟨wz, hwz⟩ : ∃ wz, ((w4.setCell ⟨b3, 0, none⟩ (.slice A4 o.length c4)).setCell ⟨b2, 0, none⟩ (.int .i64 pk)) = wz := ⟨_, rfl⟩
      rw [hwz] at S5 K5
      rw [hwz]
      have HS5 := hid S5
      have HK5 := hid K5
      clear z2 y2 z3 y3 z8 hb4 hi4 hf4 q4 S4 k1 k2 k3 f2 f3 e0 e1 e2 e3 e4 hwz K5
      have k1 := cell_of_one S5.cOrd
      clear S5
      go_wp2_with fail
      refine wp_loop_rounds 1 ?_
      rw [rounds_succ]
      go_wp2_with fail
      refine bodyPost_end (v := .tuple #[]) (by simp [results, Try.results74, go_sem]) rfl ⟨rfl, HK5.out, pk, by omega, HS5.out, ?_⟩
      exact LowP.end_ HOrd.out (by rw [← HT.out]; exact Int.le_refl _)
  · have hlt' : m ≤ pk := by omega
    go_enter Try.func74, Try.ntmps74
    go_wp2_with fail
    refine wp_loop_rounds 1 ?_
    rw [rounds_succ]
    go_wp2_with fail
    refine bodyPost_end (v := .tuple #[]) (by simp [results, Try.results74, go_sem]) rfl ⟨rfl, HK.out, m, Int.le_refl _, HS.out, ?_⟩
    exact LowP.end_ HOrd.out (by rw [← HT.out]; exact hlt')
end Go.Proofs.Ythogliblgcccnaa
