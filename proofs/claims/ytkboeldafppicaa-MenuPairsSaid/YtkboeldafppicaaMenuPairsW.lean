/- The walk of the law MenuPairs. -/
import Derived.Test.YtkboeldafppicaaKn3
import Derived.Test.YtkboeldafppicaaLgD
import Derived.Test.YtkboeldafppicaaRTwo
import Derived.Test.YtkboeldafppicaaREqual
import Derived.Test.YtkboeldafppicaaMLg
set_option linter.unusedVariables false
set_option linter.unusedSimpArgs false
namespace Go.Proofs.Ytkboeldafppicaa
open Go.RowKit

set_option maxRecDepth 100000 in
set_option maxHeartbeats 4000000 in
theorem menuPairs_walk (L : Int) (nc ac : Nat) (Na Aa : Option Addr) (rows : List (List Int)) (accs : List Bool) (L' : Int) (nc' ac' : Nat) (Na' Aa' : Option Addr) (rows' : List (List Int)) (accs' : List Bool) (w : World) (hM : MachRaw w Na rows Aa accs) (hM' : MachRaw w Na' rows' Aa' accs') :
    Calls Try.prog 6 #[.agg #[.int .i64 L, .slice Na rows.length nc, .slice Aa accs.length ac], .agg #[.int .i64 L', .slice Na' rows'.length nc', .slice Aa' accs'.length ac']] w fun e w' => Below w.heap.size w w' ∧ e = .returned (.bool true) := by
  have hA : Below w.heap.size w ((w.alloc (.cells #[.int .i64 L, .slice Na rows.length nc, .slice Aa accs.length ac] 25)).alloc (.cells #[.int .i64 L', .slice Na' rows'.length nc', .slice Aa' accs'.length ac'] 25)) := ((Below.refl _ _).alloc (Nat.le_refl _) _).alloc (by simp) _
  have hA1 : Below (w.alloc (.cells #[.int .i64 L, .slice Na rows.length nc, .slice Aa accs.length ac] 25)).heap.size (w.alloc (.cells #[.int .i64 L, .slice Na rows.length nc, .slice Aa accs.length ac] 25)) ((w.alloc (.cells #[.int .i64 L, .slice Na rows.length nc, .slice Aa accs.length ac] 25)).alloc (.cells #[.int .i64 L', .slice Na' rows'.length nc', .slice Aa' accs'.length ac'] 25)) := (Below.refl _ _).alloc (Nat.le_refl _) _
  have HXa := hid ((BoxM.made w L Na rows.length nc Aa accs.length ac).below hA1)
  have HXb := hid (BoxM.made (w.alloc (.cells #[.int .i64 L, .slice Na rows.length nc, .slice Aa accs.length ac] 25)) L' Na' rows'.length nc' Aa' accs'.length ac')
  have HMa := hid (hM.below hA)
  have HMb := hid (hM'.below hA)
  have HB := hid hA
  have hsz : (w.alloc (.cells #[.int .i64 L, .slice Na rows.length nc, .slice Aa accs.length ac] 25)).heap.size = w.heap.size + 1 := by simp
  rw [hsz] at HXb
  clear hM hM' hA hA1 hsz
  have HLg := hid (lLarge_any L nc ac Na Aa rows accs _ HMa.out)
  unfold machV at HLg
  go_enter Try.func6, Try.ntmps6
  have e0 := HXa.out.c0
  have e1 := HXa.out.c1
  have e2 := HXa.out.c2
  cases hlg : largeM rows accs with
  | true =>
    rw [hlg] at HLg
    clear hlg
    go_wp2_with fail
    refine HLg.out.mono ?_
    rintro e w1 ⟨hw1, rfl⟩
    have hbw : Below ((w.alloc (.cells #[.int .i64 L, .slice Na rows.length nc, .slice Aa accs.length ac] 25)).alloc (.cells #[.int .i64 L', .slice Na' rows'.length nc', .slice Aa' accs'.length ac'] 25)).heap.size ((w.alloc (.cells #[.int .i64 L, .slice Na rows.length nc, .slice Aa accs.length ac] 25)).alloc (.cells #[.int .i64 L', .slice Na' rows'.length nc', .slice Aa' accs'.length ac'] 25)) w1 := by rw [hw1]; exact (Below.refl _ _).alloc (Nat.le_refl _) _
    have HB := hid (HB.out.trans (hbw.mono HB.out.size))
    clear hbw hw1 HLg HXa HXb HMa HMb e0 e1 e2
    go_wp2_with fail
    refine (known3_any _).mono ?_
    rintro e wk ⟨hb, rfl⟩
    have HBz := hid (HB.out.trans (hb.mono HB.out.size))
    clear hb
    go_wp2
    go_ret
    exact ⟨HBz.out, rfl⟩
  | false =>
    obtain ⟨hma, _⟩ := largeM_mach HMa.out hlg
    have HMa := hid hma
    rw [hlg] at HLg
    clear hlg hma
    go_wp2_with fail
    refine HLg.out.mono ?_
    rintro e w1 ⟨hw1, rfl⟩
    have hbw : Below ((w.alloc (.cells #[.int .i64 L, .slice Na rows.length nc, .slice Aa accs.length ac] 25)).alloc (.cells #[.int .i64 L', .slice Na' rows'.length nc', .slice Aa' accs'.length ac'] 25)).heap.size ((w.alloc (.cells #[.int .i64 L, .slice Na rows.length nc, .slice Aa accs.length ac] 25)).alloc (.cells #[.int .i64 L', .slice Na' rows'.length nc', .slice Aa' accs'.length ac'] 25)) w1 := by rw [hw1]; exact (Below.refl _ _).alloc (Nat.le_refl _) _
    have HXa := hid (HXa.out.below hbw)
    have HXb := hid (HXb.out.below hbw)
    have HMa := hid (HMa.out.below hbw)
    have HMb := hid (HMb.out.below hbw)
    have HB := hid (HB.out.trans (hbw.mono HB.out.size))
    clear hbw hw1 HLg e0 e1 e2
    have HLg := hid (lLarge_any L' nc' ac' Na' Aa' rows' accs' _ HMb.out)
    unfold machV at HLg
    have e0 := HXb.out.c0
    have e1 := HXb.out.c1
    have e2 := HXb.out.c2
    cases hlg : largeM rows' accs' with
    | true =>
      rw [hlg] at HLg
      clear hlg
      go_wp2_with fail
      refine HLg.out.mono ?_
      rintro e w2 ⟨hw2, rfl⟩
      have hbw : Below w1.heap.size w1 w2 := by rw [hw2]; exact (Below.refl _ _).alloc (Nat.le_refl _) _
      have HB := hid (HB.out.trans (hbw.mono HB.out.size))
      clear hbw hw2 HLg HXa HXb HMa HMb e0 e1 e2
      go_wp2_with fail
      refine (known3_any _).mono ?_
      rintro e wk ⟨hb, rfl⟩
      have HBz := hid (HB.out.trans (hb.mono HB.out.size))
      clear hb
      go_wp2
      go_ret
      exact ⟨HBz.out, rfl⟩
    | false =>
      obtain ⟨hmb, _⟩ := largeM_mach HMb.out hlg
      have HMb := hid hmb
      rw [hlg] at HLg
      clear hlg hmb
      go_wp2_with fail
      refine HLg.out.mono ?_
      rintro e w2 ⟨hw2, rfl⟩
      have hbw : Below w1.heap.size w1 w2 := by rw [hw2]; exact (Below.refl _ _).alloc (Nat.le_refl _) _
      have HXa := hid (HXa.out.below hbw)
      have HXb := hid (HXb.out.below hbw)
      have HMa := hid (HMa.out.below hbw)
      have HMb := hid (HMb.out.below hbw)
      have HB := hid (HB.out.trans (hbw.mono HB.out.size))
      clear hbw hw2 HLg e0 e1 e2
      have HC := hid (mBoth_any L nc ac Na Aa rows accs L' nc' ac' Na' Aa' rows' accs' _ HMa.out HMb.out)
      unfold machV at HC
      have e0 := HXa.out.c0
      have e1 := HXa.out.c1
      have e2 := HXa.out.c2
      have d0 := HXb.out.c0
      have d1 := HXb.out.c1
      have d2 := HXb.out.c2
      go_wp2_with fail
      refine HC.out.mono ?_
      rintro e w3 ⟨hb, hans⟩
      clear HC e0 e1 e2 d0 d1 d2
      obtain ⟨M1, t1, b1, v1, N1, n1, A1, a1, hD, rfl, hmk⟩ := lg_out hans
      have HD1 := hid hD
      have hal : Below w3.heap.size w3 (w3.alloc (.cells #[.int .i64 M1, .slice N1 t1.length n1, .slice A1 b1.length a1] 25)) := (Below.refl _ _).alloc (Nat.le_refl _) _
      have HX1 := hid (BoxM.made w3 M1 N1 t1.length n1 A1 b1.length a1)
      have HM1 := hid (hmk.mach.below hal)
      have hbb := hb.trans (hal.mono hb.size)
      have HXa := hid (HXa.out.below hbb)
      have HMa := hid (HMa.out.below hbb)
      have HXb := hid (HXb.out.below hbb)
      have HMb := hid (HMb.out.below hbb)
      have HB := hid (HB.out.trans (hbb.mono HB.out.size))
      clear hb hans hD hmk hal hbb
      unfold machV
      have HC := hid (rBoth_any L nc ac Na Aa rows accs L' nc' ac' Na' Aa' rows' accs' _ HMa.out HMb.out)
      unfold machV at HC
      have e0 := HXa.out.c0
      have e1 := HXa.out.c1
      have e2 := HXa.out.c2
      have d0 := HXb.out.c0
      have d1 := HXb.out.c1
      have d2 := HXb.out.c2
      go_wp2_with fail
      refine HC.out.mono ?_
      rintro e w4 ⟨hb, hans⟩
      clear HC e0 e1 e2 d0 d1 d2
      generalize w3.alloc (.cells #[.int .i64 M1, .slice N1 t1.length n1, .slice A1 b1.length a1] 25) = y2 at *
      obtain ⟨M2, t2, b2, v2, N2, n2, A2, a2, hD, rfl, hmk⟩ := lg_out hans
      obtain ⟨rfl, rfl, rfl, rfl⟩ := HD1.out.unique hD
      clear HD1
      have hal : Below w4.heap.size w4 (w4.alloc (.cells #[.int .i64 M2, .slice N2 t2.length n2, .slice A2 b2.length a2] 25)) := (Below.refl _ _).alloc (Nat.le_refl _) _
      have HX2 := hid (BoxM.made w4 M2 N2 t2.length n2 A2 b2.length a2)
      have HM2 := hid (hmk.mach.below hal)
      have hbb := hb.trans (hal.mono hb.size)
      have HXa := hid (HXa.out.below hbb)
      have HMa := hid (HMa.out.below hbb)
      have HXb := hid (HXb.out.below hbb)
      have HMb := hid (HMb.out.below hbb)
      have HX1 := hid (HX1.out.below hbb)
      have HM1 := hid (HM1.out.below hbb)
      have HB := hid (HB.out.trans (hbb.mono HB.out.size))
      clear hb hans hD hmk hal hbb
      unfold machV
      have HC := hid (mEither_any L nc ac Na Aa rows accs L' nc' ac' Na' Aa' rows' accs' _ HMa.out HMb.out)
      unfold machV at HC
      have e0 := HXa.out.c0
      have e1 := HXa.out.c1
      have e2 := HXa.out.c2
      have d0 := HXb.out.c0
      have d1 := HXb.out.c1
      have d2 := HXb.out.c2
      go_wp2_with fail
      refine HC.out.mono ?_
      rintro e w5 ⟨hb, hans⟩
      clear HC e0 e1 e2 d0 d1 d2
      generalize w4.alloc (.cells #[.int .i64 M2, .slice N2 t2.length n2, .slice A2 b2.length a2] 25) = y3 at *
      obtain ⟨M3, t3, b3, v3, N3, n3, A3, a3, hD, rfl, hmk⟩ := lg_out hans
      have HD3 := hid hD
      have hal : Below w5.heap.size w5 (w5.alloc (.cells #[.int .i64 M3, .slice N3 t3.length n3, .slice A3 b3.length a3] 25)) := (Below.refl _ _).alloc (Nat.le_refl _) _
      have HX3 := hid (BoxM.made w5 M3 N3 t3.length n3 A3 b3.length a3)
      have HM3 := hid (hmk.mach.below hal)
      have hbb := hb.trans (hal.mono hb.size)
      have HXa := hid (HXa.out.below hbb)
      have HMa := hid (HMa.out.below hbb)
      have HXb := hid (HXb.out.below hbb)
      have HMb := hid (HMb.out.below hbb)
      have HX1 := hid (HX1.out.below hbb)
      have HM1 := hid (HM1.out.below hbb)
      have HX2 := hid (HX2.out.below hbb)
      have HM2 := hid (HM2.out.below hbb)
      have HB := hid (HB.out.trans (hbb.mono HB.out.size))
      clear hb hans hD hmk hal hbb
      unfold machV
      have HC := hid (rEither_any L nc ac Na Aa rows accs L' nc' ac' Na' Aa' rows' accs' _ HMa.out HMb.out)
      unfold machV at HC
      have e0 := HXa.out.c0
      have e1 := HXa.out.c1
      have e2 := HXa.out.c2
      have d0 := HXb.out.c0
      have d1 := HXb.out.c1
      have d2 := HXb.out.c2
      go_wp2_with fail
      refine HC.out.mono ?_
      rintro e w6 ⟨hb, hans⟩
      clear HC e0 e1 e2 d0 d1 d2
      generalize w5.alloc (.cells #[.int .i64 M3, .slice N3 t3.length n3, .slice A3 b3.length a3] 25) = y4 at *
      obtain ⟨M4, t4, b4, v4, N4, n4, A4, a4, hD, rfl, hmk⟩ := lg_out hans
      obtain ⟨rfl, rfl, rfl, rfl⟩ := HD3.out.unique hD
      clear HD3
      have hal : Below w6.heap.size w6 (w6.alloc (.cells #[.int .i64 M4, .slice N4 t4.length n4, .slice A4 b4.length a4] 25)) := (Below.refl _ _).alloc (Nat.le_refl _) _
      have HX4 := hid (BoxM.made w6 M4 N4 t4.length n4 A4 b4.length a4)
      have HM4 := hid (hmk.mach.below hal)
      have hbb := hb.trans (hal.mono hb.size)
      have HX1 := hid (HX1.out.below hbb)
      have HM1 := hid (HM1.out.below hbb)
      have HX2 := hid (HX2.out.below hbb)
      have HM2 := hid (HM2.out.below hbb)
      have HX3 := hid (HX3.out.below hbb)
      have HM3 := hid (HM3.out.below hbb)
      have HB := hid (HB.out.trans (hbb.mono HB.out.size))
      clear hb hans hD hmk hal hbb
      unfold machV
      have HEq := hid (rEqual_same M2 n1 a1 n2 a2 N1 A1 N2 A2 t2 b2 _ HM1.out HM2.out)
      unfold machV at HEq
      have e0 := HX1.out.c0
      have e1 := HX1.out.c1
      have e2 := HX1.out.c2
      have d0 := HX2.out.c0
      have d1 := HX2.out.c1
      have d2 := HX2.out.c2
      have hvv : (v2 == v2) = true := by simp
      have huu : (v4 == v4) = true := by simp
      clear HXa HXb HMa HMb
      go_wp2_with fail
      refine HEq.out.mono ?_
      rintro e w7 ⟨hb, rfl⟩
      clear HEq e0 e1 e2 d0 d1 d2
      have HX3 := hid (HX3.out.below hb)
      have HX4 := hid (HX4.out.below hb)
      have HM3 := hid (HM3.out.below hb)
      have HM4 := hid (HM4.out.below hb)
      have HB := hid (HB.out.trans (hb.mono HB.out.size))
      clear hb
      have HEq := hid (rEqual_same M4 n3 a3 n4 a4 N3 A3 N4 A4 t4 b4 _ HM3.out HM4.out)
      unfold machV at HEq
      have e0 := HX3.out.c0
      have e1 := HX3.out.c1
      have e2 := HX3.out.c2
      have d0 := HX4.out.c0
      have d1 := HX4.out.c1
      have d2 := HX4.out.c2
      go_wp2_with fail
      refine HEq.out.mono ?_
      rintro e w8 ⟨hb, rfl⟩
      clear HEq e0 e1 e2 d0 d1 d2
      have HB := hid (HB.out.trans (hb.mono HB.out.size))
      clear hb
      go_wp2_with fail
      refine (known3_any _).mono ?_
      rintro e wk ⟨hb, rfl⟩
      have HBz := hid (HB.out.trans (hb.mono HB.out.size))
      clear hb
      go_wp2
      go_ret
      exact ⟨HBz.out, rfl⟩
end Go.Proofs.Ytkboeldafppicaa
