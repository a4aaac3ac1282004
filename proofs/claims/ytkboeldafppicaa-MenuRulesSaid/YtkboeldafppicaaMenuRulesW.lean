/- The walk of the law MenuRules. -/
import Derived.Test.YtkboeldafppicaaRRules
import Derived.Test.YtkboeldafppicaaMeanX
import Derived.Test.YtkboeldafppicaaKn3
import Derived.Test.YtkboeldafppicaaREqual
import Derived.Test.YtkboeldafppicaaMLg
import Derived.Deep.Cut
set_option linter.unusedVariables false
set_option linter.unusedSimpArgs false
namespace Go.Proofs.Ytkboeldafppicaa
open Go.RowKit

set_option maxRecDepth 100000 in
set_option maxHeartbeats 8000000 in
theorem menuRules_walk (n d b : Int) (w : World) (hI : (-9223372036854775808 ≤ n ∧ n ≤ 9223372036854775807) ∧ (-9223372036854775808 ≤ d ∧ d ≤ 9223372036854775807) ∧ (-9223372036854775808 ≤ b ∧ b ≤ 9223372036854775807)) :
    Calls Try.prog 8 #[.agg #[.int .i64 n, .int .i64 d, .int .i64 b]] w fun e w' => Below w.heap.size w w' ∧ e = .returned (.bool true) := by
  have hA : Below w.heap.size w (w.alloc (.cells #[.int .i64 n, .int .i64 d, .int .i64 b] 45)) := (Below.refl _ _).alloc (Nat.le_refl _) _
  have f0 : (w.alloc (.cells #[.int .i64 n, .int .i64 d, .int .i64 b] 45)).cell? ⟨w.heap.size, 0, none⟩ = some (.int .i64 n) := by go_simp
  have f1 : (w.alloc (.cells #[.int .i64 n, .int .i64 d, .int .i64 b] 45)).cell? ⟨w.heap.size, 1, none⟩ = some (.int .i64 d) := by go_simp
  have f2 : (w.alloc (.cells #[.int .i64 n, .int .i64 d, .int .i64 b] 45)).cell? ⟨w.heap.size, 2, none⟩ = some (.int .i64 b) := by go_simp
  have HB := hid hA
  clear hA hI
  go_enter Try.func8, Try.ntmps8
  go_upto_region 1 with fail
  generalize w.alloc (.cells #[.int .i64 n, .int .i64 d, .int .i64 b] 45) = w0 at *
  go_wp2_with fail
  refine (apart_any n d _).mono ?_
  rintro e wa ⟨hba, hans⟩
  obtain ⟨M1, t1, bs1, v1, Na1, nc1, Aa1, ac1, hD, rfl, hM⟩ := rl_out hans
  have HD1 := hid hD
  have HM1 := hid hM.mach
  have HB := hid (HB.out.trans (hba.mono HB.out.size))
  have f0 := (hba.cell (cell_lt f0)).trans f0
  have f1 := (hba.cell (cell_lt f1)).trans f1
  have f2 := (hba.cell (cell_lt f2)).trans f2
  clear hba hans hD hM
  unfold machV
  go_upto_region 2 with fail
  have hAl : Below wa.heap.size wa (wa.alloc (.cells #[.int .i64 M1, .slice Na1 t1.length nc1, .slice Aa1 bs1.length ac1] 25)) := (Below.refl _ _).alloc (Nat.le_refl _) _
  have HX1 := hid (BoxM.made wa M1 Na1 t1.length nc1 Aa1 bs1.length ac1)
  have HM1 := hid (HM1.out.below hAl)
  have HB := hid (HB.out.trans (hAl.mono HB.out.size))
  have f0 := (hAl.cell (cell_lt f0)).trans f0
  have f1 := (hAl.cell (cell_lt f1)).trans f1
  have f2 := (hAl.cell (cell_lt f2)).trans f2
  have HC := hid (And.intro f0 (And.intro f1 f2))
  clear f0 f1 f2
  obtain ⟨f0, f1, f2⟩ := HC.out
  clear hAl
  generalize hww : wa.alloc (.cells #[.int .i64 M1, .slice Na1 t1.length nc1, .slice Aa1 bs1.length ac1] 25) = wc1 at *
  obtain ⟨p1, hp1⟩ : ∃ p, p = wa.heap.size := ⟨_, rfl⟩
  rw [← hp1] at HX1 ⊢
  clear hww hp1
  go_wp2_with fail
  refine (rApart_any n d _).mono ?_
  rintro e wa ⟨hba, hans⟩
  obtain ⟨M2, t2, bs2, v2, Na2, nc2, Aa2, ac2, hD, rfl, hM⟩ := rl_out hans
  obtain ⟨rfl, rfl, rfl, rfl⟩ := HD1.out.unique hD
  clear HD1
  have HM2 := hid hM.mach
  have HB := hid (HB.out.trans (hba.mono HB.out.size))
  have f0 := (hba.cell (cell_lt f0)).trans f0
  have f1 := (hba.cell (cell_lt f1)).trans f1
  have f2 := (hba.cell (cell_lt f2)).trans f2
  have HX1 := hid (HX1.out.below hba)
  have HM1 := hid (HM1.out.below hba)
  clear hba hans hD hM
  unfold machV
  go_upto_region 3 with fail
  have hAl : Below wa.heap.size wa (wa.alloc (.cells #[.int .i64 M2, .slice Na2 t2.length nc2, .slice Aa2 bs2.length ac2] 25)) := (Below.refl _ _).alloc (Nat.le_refl _) _
  have HX2 := hid (BoxM.made wa M2 Na2 t2.length nc2 Aa2 bs2.length ac2)
  have HM2 := hid (HM2.out.below hAl)
  have HB := hid (HB.out.trans (hAl.mono HB.out.size))
  have f0 := (hAl.cell (cell_lt f0)).trans f0
  have f1 := (hAl.cell (cell_lt f1)).trans f1
  have f2 := (hAl.cell (cell_lt f2)).trans f2
  have HX1 := hid (HX1.out.below hAl)
  have HM1 := hid (HM1.out.below hAl)
  have HC := hid (And.intro f0 (And.intro f1 f2))
  clear f0 f1 f2
  obtain ⟨f0, f1, f2⟩ := HC.out
  clear hAl
  generalize hww : wa.alloc (.cells #[.int .i64 M2, .slice Na2 t2.length nc2, .slice Aa2 bs2.length ac2] 25) = wc2 at *
  obtain ⟨p2, hp2⟩ : ∃ p, p = wa.heap.size := ⟨_, rfl⟩
  rw [← hp2] at HX2 ⊢
  clear hww hp2
  go_wp2_with fail
  refine (never_any n d b _).mono ?_
  rintro e wa ⟨hba, hans⟩
  obtain ⟨M3, t3, bs3, v3, Na3, nc3, Aa3, ac3, hD, rfl, hM⟩ := rl_out hans
  have HD3 := hid hD
  have HM3 := hid hM.mach
  have HB := hid (HB.out.trans (hba.mono HB.out.size))
  have f0 := (hba.cell (cell_lt f0)).trans f0
  have f1 := (hba.cell (cell_lt f1)).trans f1
  have f2 := (hba.cell (cell_lt f2)).trans f2
  have HX1 := hid (HX1.out.below hba)
  have HM1 := hid (HM1.out.below hba)
  have HX2 := hid (HX2.out.below hba)
  have HM2 := hid (HM2.out.below hba)
  clear hba hans hD hM
  unfold machV
  go_upto_region 4 with fail
  have hAl : Below wa.heap.size wa (wa.alloc (.cells #[.int .i64 M3, .slice Na3 t3.length nc3, .slice Aa3 bs3.length ac3] 25)) := (Below.refl _ _).alloc (Nat.le_refl _) _
  have HX3 := hid (BoxM.made wa M3 Na3 t3.length nc3 Aa3 bs3.length ac3)
  have HM3 := hid (HM3.out.below hAl)
  have HB := hid (HB.out.trans (hAl.mono HB.out.size))
  have f0 := (hAl.cell (cell_lt f0)).trans f0
  have f1 := (hAl.cell (cell_lt f1)).trans f1
  have f2 := (hAl.cell (cell_lt f2)).trans f2
  have HX1 := hid (HX1.out.below hAl)
  have HM1 := hid (HM1.out.below hAl)
  have HX2 := hid (HX2.out.below hAl)
  have HM2 := hid (HM2.out.below hAl)
  have HC := hid (And.intro f0 (And.intro f1 f2))
  clear f0 f1 f2
  obtain ⟨f0, f1, f2⟩ := HC.out
  clear hAl
  generalize hww : wa.alloc (.cells #[.int .i64 M3, .slice Na3 t3.length nc3, .slice Aa3 bs3.length ac3] 25) = wc3 at *
  obtain ⟨p3, hp3⟩ : ∃ p, p = wa.heap.size := ⟨_, rfl⟩
  rw [← hp3] at HX3 ⊢
  clear hww hp3
  go_wp2_with fail
  refine (rNever_any n d b _).mono ?_
  rintro e wa ⟨hba, hans⟩
  obtain ⟨M4, t4, bs4, v4, Na4, nc4, Aa4, ac4, hD, rfl, hM⟩ := rl_out hans
  obtain ⟨rfl, rfl, rfl, rfl⟩ := HD3.out.unique hD
  clear HD3
  have HM4 := hid hM.mach
  have HB := hid (HB.out.trans (hba.mono HB.out.size))
  have f0 := (hba.cell (cell_lt f0)).trans f0
  have f1 := (hba.cell (cell_lt f1)).trans f1
  have f2 := (hba.cell (cell_lt f2)).trans f2
  have HX1 := hid (HX1.out.below hba)
  have HM1 := hid (HM1.out.below hba)
  have HX2 := hid (HX2.out.below hba)
  have HM2 := hid (HM2.out.below hba)
  have HX3 := hid (HX3.out.below hba)
  have HM3 := hid (HM3.out.below hba)
  clear hba hans hD hM
  unfold machV
  go_upto_region 5 with fail
  have hAl : Below wa.heap.size wa (wa.alloc (.cells #[.int .i64 M4, .slice Na4 t4.length nc4, .slice Aa4 bs4.length ac4] 25)) := (Below.refl _ _).alloc (Nat.le_refl _) _
  have HX4 := hid (BoxM.made wa M4 Na4 t4.length nc4 Aa4 bs4.length ac4)
  have HM4 := hid (HM4.out.below hAl)
  have HB := hid (HB.out.trans (hAl.mono HB.out.size))
  have f0 := (hAl.cell (cell_lt f0)).trans f0
  have f1 := (hAl.cell (cell_lt f1)).trans f1
  have f2 := (hAl.cell (cell_lt f2)).trans f2
  have HX1 := hid (HX1.out.below hAl)
  have HM1 := hid (HM1.out.below hAl)
  have HX2 := hid (HX2.out.below hAl)
  have HM2 := hid (HM2.out.below hAl)
  have HX3 := hid (HX3.out.below hAl)
  have HM3 := hid (HM3.out.below hAl)
  have HC := hid (And.intro f0 (And.intro f1 f2))
  clear f0 f1 f2
  obtain ⟨f0, f1, f2⟩ := HC.out
  clear hAl
  generalize hww : wa.alloc (.cells #[.int .i64 M4, .slice Na4 t4.length nc4, .slice Aa4 bs4.length ac4] 25) = wc4 at *
  obtain ⟨p4, hp4⟩ : ∃ p, p = wa.heap.size := ⟨_, rfl⟩
  rw [← hp4] at HX4 ⊢
  clear hww hp4
  have g1 : (v2 != v2) = false := by simp
  have g2 : (v4 != v4) = false := by simp
  have HEq := hid (rEqual_same M2 nc1 ac1 nc2 ac2 Na1 Aa1 Na2 Aa2 t2 bs2 _ HM1.out HM2.out)
  unfold machV at HEq
  have e0 := HX1.out.c0
  have e1 := HX1.out.c1
  have e2 := HX1.out.c2
  have d0 := HX2.out.c0
  have d1 := HX2.out.c1
  have d2 := HX2.out.c2
  go_wp2_with fail
  refine HEq.out.mono ?_
  rintro e wa ⟨hba, rfl⟩
  have HB := hid (HB.out.trans (hba.mono HB.out.size))
  have f0 := (hba.cell (cell_lt f0)).trans f0
  have f1 := (hba.cell (cell_lt f1)).trans f1
  have f2 := (hba.cell (cell_lt f2)).trans f2
  have HX3 := hid (HX3.out.below hba)
  have HM3 := hid (HM3.out.below hba)
  have HX4 := hid (HX4.out.below hba)
  have HM4 := hid (HM4.out.below hba)
  clear hba HEq e0 e1 e2 d0 d1 d2
  have HEq := hid (rEqual_same M4 nc3 ac3 nc4 ac4 Na3 Aa3 Na4 Aa4 t4 bs4 _ HM3.out HM4.out)
  unfold machV at HEq
  have e0 := HX3.out.c0
  have e1 := HX3.out.c1
  have e2 := HX3.out.c2
  have d0 := HX4.out.c0
  have d1 := HX4.out.c1
  have d2 := HX4.out.c2
  go_wp2_with fail
  refine HEq.out.mono ?_
  rintro e wa ⟨hba, rfl⟩
  have HB := hid (HB.out.trans (hba.mono HB.out.size))
  have f0 := (hba.cell (cell_lt f0)).trans f0
  have f1 := (hba.cell (cell_lt f1)).trans f1
  have f2 := (hba.cell (cell_lt f2)).trans f2
  clear hba HEq e0 e1 e2 d0 d1 d2
  clear g1 g2 HX1 HX2 HX3 HX4 HM1 HM2 HM3 HM4
  go_wp2_with fail
  refine (least_any n d b _).mono ?_
  rintro e wa ⟨hba, hans⟩
  obtain ⟨M5, t5, bs5, v5, Na5, nc5, Aa5, ac5, hD, rfl, hM⟩ := rl_out hans
  have HD5 := hid hD
  have HM5 := hid hM.mach
  have HB := hid (HB.out.trans (hba.mono HB.out.size))
  have f0 := (hba.cell (cell_lt f0)).trans f0
  have f1 := (hba.cell (cell_lt f1)).trans f1
  have f2 := (hba.cell (cell_lt f2)).trans f2
  clear hba hans hD hM
  unfold machV
  go_upto_region 8 with fail
  have hAl : Below wa.heap.size wa (wa.alloc (.cells #[.int .i64 M5, .slice Na5 t5.length nc5, .slice Aa5 bs5.length ac5] 25)) := (Below.refl _ _).alloc (Nat.le_refl _) _
  have HX5 := hid (BoxM.made wa M5 Na5 t5.length nc5 Aa5 bs5.length ac5)
  have HM5 := hid (HM5.out.below hAl)
  have HB := hid (HB.out.trans (hAl.mono HB.out.size))
  have f0 := (hAl.cell (cell_lt f0)).trans f0
  have f1 := (hAl.cell (cell_lt f1)).trans f1
  have f2 := (hAl.cell (cell_lt f2)).trans f2
  have HC := hid (And.intro f0 (And.intro f1 f2))
  clear f0 f1 f2
  obtain ⟨f0, f1, f2⟩ := HC.out
  clear hAl
  generalize hww : wa.alloc (.cells #[.int .i64 M5, .slice Na5 t5.length nc5, .slice Aa5 bs5.length ac5] 25) = wc5 at *
  obtain ⟨p5, hp5⟩ : ∃ p, p = wa.heap.size := ⟨_, rfl⟩
  rw [← hp5] at HX5 ⊢
  clear hww hp5
  go_wp2_with fail
  refine (rLeast_any n d b _).mono ?_
  rintro e wa ⟨hba, hans⟩
  obtain ⟨M6, t6, bs6, v6, Na6, nc6, Aa6, ac6, hD, rfl, hM⟩ := rl_out hans
  obtain ⟨rfl, rfl, rfl, rfl⟩ := HD5.out.unique hD
  clear HD5
  have HM6 := hid hM.mach
  have HB := hid (HB.out.trans (hba.mono HB.out.size))
  have f0 := (hba.cell (cell_lt f0)).trans f0
  have f1 := (hba.cell (cell_lt f1)).trans f1
  have f2 := (hba.cell (cell_lt f2)).trans f2
  have HX5 := hid (HX5.out.below hba)
  have HM5 := hid (HM5.out.below hba)
  clear hba hans hD hM
  unfold machV
  go_upto_region 9 with fail
  have hAl : Below wa.heap.size wa (wa.alloc (.cells #[.int .i64 M6, .slice Na6 t6.length nc6, .slice Aa6 bs6.length ac6] 25)) := (Below.refl _ _).alloc (Nat.le_refl _) _
  have HX6 := hid (BoxM.made wa M6 Na6 t6.length nc6 Aa6 bs6.length ac6)
  have HM6 := hid (HM6.out.below hAl)
  have HB := hid (HB.out.trans (hAl.mono HB.out.size))
  have f0 := (hAl.cell (cell_lt f0)).trans f0
  have f1 := (hAl.cell (cell_lt f1)).trans f1
  have f2 := (hAl.cell (cell_lt f2)).trans f2
  have HX5 := hid (HX5.out.below hAl)
  have HM5 := hid (HM5.out.below hAl)
  have HC := hid (And.intro f0 (And.intro f1 f2))
  clear f0 f1 f2
  obtain ⟨f0, f1, f2⟩ := HC.out
  clear hAl
  generalize hww : wa.alloc (.cells #[.int .i64 M6, .slice Na6 t6.length nc6, .slice Aa6 bs6.length ac6] 25) = wc6 at *
  obtain ⟨p6, hp6⟩ : ∃ p, p = wa.heap.size := ⟨_, rfl⟩
  rw [← hp6] at HX6 ⊢
  clear hww hp6
  go_wp2_with fail
  refine (most_any n d b _).mono ?_
  rintro e wa ⟨hba, hans⟩
  obtain ⟨M7, t7, bs7, v7, Na7, nc7, Aa7, ac7, hD, rfl, hM⟩ := rl_out hans
  have HD7 := hid hD
  have HM7 := hid hM.mach
  have HB := hid (HB.out.trans (hba.mono HB.out.size))
  have f0 := (hba.cell (cell_lt f0)).trans f0
  have f1 := (hba.cell (cell_lt f1)).trans f1
  have f2 := (hba.cell (cell_lt f2)).trans f2
  have HX5 := hid (HX5.out.below hba)
  have HM5 := hid (HM5.out.below hba)
  have HX6 := hid (HX6.out.below hba)
  have HM6 := hid (HM6.out.below hba)
  clear hba hans hD hM
  unfold machV
  go_upto_region 10 with fail
  have hAl : Below wa.heap.size wa (wa.alloc (.cells #[.int .i64 M7, .slice Na7 t7.length nc7, .slice Aa7 bs7.length ac7] 25)) := (Below.refl _ _).alloc (Nat.le_refl _) _
  have HX7 := hid (BoxM.made wa M7 Na7 t7.length nc7 Aa7 bs7.length ac7)
  have HM7 := hid (HM7.out.below hAl)
  have HB := hid (HB.out.trans (hAl.mono HB.out.size))
  have f0 := (hAl.cell (cell_lt f0)).trans f0
  have f1 := (hAl.cell (cell_lt f1)).trans f1
  have f2 := (hAl.cell (cell_lt f2)).trans f2
  have HX5 := hid (HX5.out.below hAl)
  have HM5 := hid (HM5.out.below hAl)
  have HX6 := hid (HX6.out.below hAl)
  have HM6 := hid (HM6.out.below hAl)
  have HC := hid (And.intro f0 (And.intro f1 f2))
  clear f0 f1 f2
  obtain ⟨f0, f1, f2⟩ := HC.out
  clear hAl
  generalize hww : wa.alloc (.cells #[.int .i64 M7, .slice Na7 t7.length nc7, .slice Aa7 bs7.length ac7] 25) = wc7 at *
  obtain ⟨p7, hp7⟩ : ∃ p, p = wa.heap.size := ⟨_, rfl⟩
  rw [← hp7] at HX7 ⊢
  clear hww hp7
  go_wp2_with fail
  refine (rMost_any n d b _).mono ?_
  rintro e wa ⟨hba, hans⟩
  obtain ⟨M8, t8, bs8, v8, Na8, nc8, Aa8, ac8, hD, rfl, hM⟩ := rl_out hans
  obtain ⟨rfl, rfl, rfl, rfl⟩ := HD7.out.unique hD
  clear HD7
  have HM8 := hid hM.mach
  have HB := hid (HB.out.trans (hba.mono HB.out.size))
  have f0 := (hba.cell (cell_lt f0)).trans f0
  have f1 := (hba.cell (cell_lt f1)).trans f1
  have f2 := (hba.cell (cell_lt f2)).trans f2
  have HX5 := hid (HX5.out.below hba)
  have HM5 := hid (HM5.out.below hba)
  have HX6 := hid (HX6.out.below hba)
  have HM6 := hid (HM6.out.below hba)
  have HX7 := hid (HX7.out.below hba)
  have HM7 := hid (HM7.out.below hba)
  clear hba hans hD hM
  unfold machV
  go_upto_region 11 with fail
  have hAl : Below wa.heap.size wa (wa.alloc (.cells #[.int .i64 M8, .slice Na8 t8.length nc8, .slice Aa8 bs8.length ac8] 25)) := (Below.refl _ _).alloc (Nat.le_refl _) _
  have HX8 := hid (BoxM.made wa M8 Na8 t8.length nc8 Aa8 bs8.length ac8)
  have HM8 := hid (HM8.out.below hAl)
  have HB := hid (HB.out.trans (hAl.mono HB.out.size))
  have f0 := (hAl.cell (cell_lt f0)).trans f0
  have f1 := (hAl.cell (cell_lt f1)).trans f1
  have f2 := (hAl.cell (cell_lt f2)).trans f2
  have HX5 := hid (HX5.out.below hAl)
  have HM5 := hid (HM5.out.below hAl)
  have HX6 := hid (HX6.out.below hAl)
  have HM6 := hid (HM6.out.below hAl)
  have HX7 := hid (HX7.out.below hAl)
  have HM7 := hid (HM7.out.below hAl)
  have HC := hid (And.intro f0 (And.intro f1 f2))
  clear f0 f1 f2
  obtain ⟨f0, f1, f2⟩ := HC.out
  clear hAl
  generalize hww : wa.alloc (.cells #[.int .i64 M8, .slice Na8 t8.length nc8, .slice Aa8 bs8.length ac8] 25) = wc8 at *
  obtain ⟨p8, hp8⟩ : ∃ p, p = wa.heap.size := ⟨_, rfl⟩
  rw [← hp8] at HX8 ⊢
  clear hww hp8
  have g1 : (v6 == v6) = true := by simp
  have g2 : (v8 == v8) = true := by simp
  clear f0 f1 f2 HC
  have HEq := hid (rEqual_same M6 nc5 ac5 nc6 ac6 Na5 Aa5 Na6 Aa6 t6 bs6 _ HM5.out HM6.out)
  unfold machV at HEq
  have e0 := HX5.out.c0
  have e1 := HX5.out.c1
  have e2 := HX5.out.c2
  have d0 := HX6.out.c0
  have d1 := HX6.out.c1
  have d2 := HX6.out.c2
  go_wp2_with fail
  refine HEq.out.mono ?_
  rintro e wa ⟨hba, rfl⟩
  have HB := hid (HB.out.trans (hba.mono HB.out.size))
  have HX7 := hid (HX7.out.below hba)
  have HM7 := hid (HM7.out.below hba)
  have HX8 := hid (HX8.out.below hba)
  have HM8 := hid (HM8.out.below hba)
  clear hba HEq e0 e1 e2 d0 d1 d2
  have HEq := hid (rEqual_same M8 nc7 ac7 nc8 ac8 Na7 Aa7 Na8 Aa8 t8 bs8 _ HM7.out HM8.out)
  unfold machV at HEq
  have e0 := HX7.out.c0
  have e1 := HX7.out.c1
  have e2 := HX7.out.c2
  have d0 := HX8.out.c0
  have d1 := HX8.out.c1
  have d2 := HX8.out.c2
  go_wp2_with fail
  refine HEq.out.mono ?_
  rintro e wa ⟨hba, rfl⟩
  have HB := hid (HB.out.trans (hba.mono HB.out.size))
  clear hba HEq e0 e1 e2 d0 d1 d2
  go_wp2_with fail
  refine (known3_any _).mono ?_
  rintro e wz ⟨hbz, rfl⟩
  have HBz := hid (HB.out.trans (hbz.mono HB.out.size))
  clear hbz
  go_wp2
  go_ret
  exact ⟨HBz.out, rfl⟩
end Go.Proofs.Ytkboeldafppicaa
