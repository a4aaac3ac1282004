/- The law OrderChildren: its walk. -/
import Derived.Test.YtcncnakpehnadaaOrKidR
set_option linter.unusedVariables false
namespace Go.Proofs.Ytcncnakpehnadaa
open Go.RowKit

set_option maxRecDepth 100000 in
set_option maxHeartbeats 4000000 in
theorem orderChildren_bad (a : Option Addr) (l : List Fct) (cap : Nat) (x y z : Int) (w : World) (hl : FactsAt w a l) (hcap : l.length ≤ cap) (h200 : l.length ≤ 200) (hE : kidE l y z ≠ 0) :
  Calls Try.prog 6 #[.slice a l.length cap, .agg #[.int .i64 x, .int .i64 y, .int .i64 z]] w (BoolR w true) := by
  have hlen := hl.len
  have HA := hid (askAt_new w x y z 47)
  have HL := hid hl
  have hB0 := hid (below_new w (.cells #[.int .i64 x, .int .i64 y, .int .i64 z] 47))
  have hd : ¬ (200 : Int) < (l.length : Int) := by omega
  have hd2 : decide ((200 : Int) < (l.length : Int)) = false := by simpa using hd
  have HK1 := hid (fun W (h : FactsAt W a l) => Children_any a l cap x y z W h hcap)
  have HK2 := hid (fun W (h : FactsAt W a l) => rChildren_any a l cap x y z W h)
  rw [show childrenL l x y z = ([], kidE l y z) from if_neg hE] at HK1 HK2
  have hE' : (kidE l y z != 0) = true := by simp [hE]
  clear hE hl
  generalize kidE l y z = e0 at *
  go_enter Try.func6, Try.ntmps6
  go_wp2_with fail
  refine (long5_any _ _ _ _ (by omega)).mono ?_
  rintro e w' ⟨rfl, rfl⟩
  generalize w.alloc (.cells #[.int .i64 x, .int .i64 y, .int .i64 z] 47) = W0 at *
  obtain ⟨x0, x1, x2⟩ := HA.out
  rw [hd2]
  go_wp2_with fail
  refine (HK1.out W0 (HL.out.below hB0.out)).mono ?_
  rintro e w1 ⟨q1, A, c, rfl, hA⟩
  have p1 := hB0.out.trans (q1.mono hB0.out.size)
  obtain ⟨x0, x1, x2⟩ := HA.out.below q1
  have HX := hid hA
  clear hA
  go_wp2_with fail
  refine (HK2.out w1 (HL.out.below p1)).mono ?_
  rintro e w2 ⟨q2, B, d, rfl, hB⟩
  have p2 := p1.trans (q2.mono p1.size)
  have HY := hid (sameInts5_any A B [] c d w2 (HX.out.below q2) hB)
  clear hB
  go_wp2_with fail
  refine HY.out.mono ?_
  rintro e w' ⟨n, rfl, rfl⟩
  go_wp2_with fail
  refine (known5_any _).mono ?_
  rintro e w5 ⟨q5, rfl⟩
  go_wp2
  go_ret
  exact ⟨(below_drewN p2 n).trans (q5.mono (below_drewN p2 n).size), rfl⟩

theorem kidE_meal {l : List Fct} {d m : Int} (h : kidE l d m = 0) (k : Int) (h0 : 0 ≤ k) (h9 : k ≤ 9) : kidE l d k = 0 := by
  obtain ⟨h1, h2⟩ := chkE_ok h
  simp at h2
  unfold kidE chkE
  rw [if_pos h1, h2.1, inI_iff.2 ⟨h0, h9⟩]
  rfl
set_option maxRecDepth 100000 in
set_option maxHeartbeats 4000000 in
theorem orderChildren_ok (a : Option Addr) (l : List Fct) (cap : Nat) (x y z : Int) (w : World) (hl : FactsAt w a l) (hcap : l.length ≤ cap) (h200 : l.length ≤ 200) (hE : kidE l y z = 0) :
  Calls Try.prog 6 #[.slice a l.length cap, .agg #[.int .i64 x, .int .i64 y, .int .i64 z]] w (BoolR w true) := by
  have hlen := hl.len
  have HA := hid (askAt_new w x y z 47)
  have HL := hid hl
  have hB0 := hid (below_new w (.cells #[.int .i64 x, .int .i64 y, .int .i64 z] 47))
  have hd : ¬ (200 : Int) < (l.length : Int) := by omega
  have hd2 : decide ((200 : Int) < (l.length : Int)) = false := by simpa using hd
  have HK1 := hid (fun W (h : FactsAt W a l) => Children_any a l cap x y z W h hcap)
  have HK2 := hid (fun W (h : FactsAt W a l) => rChildren_any a l cap x y z W h)
  have HK3 := hid (fun W (h : FactsAt W a l) (m : Nat) (hm : m ≤ 9) => by
    have := Children_any a l cap x y (m : Int) W h hcap
    rw [show childrenL l x y (m : Int) = (kidsTo (kidG l x y) (m : Int) 100, 0) from if_pos (kidE_meal hE _ (by omega) (by omega))] at this
    exact this)
  have HSum := hid (kids_all (kidG l x y) (fun c => mealK_bd (kidE_ok hE).2.1 c y _ (cutL_le _ _)) 100)
  rw [show childrenL l x y z = (kidsTo (kidG l x y) z 100, 0) from if_pos hE] at HK1 HK2
  clear hE hl
  have HLen := hid (fun (m : Nat) => kidsTo_len (kidG l x y) (m : Int) 100)
  have hL0 := kidsTo_len (kidG l x y) z 100
  generalize hkz : kidsTo (kidG l x y) z 100 = xs at *
  clear hkz
  go_enter Try.func6, Try.ntmps6
  go_wp2_with fail
  refine (long5_any _ _ _ _ (by omega)).mono ?_
  rintro e w' ⟨rfl, rfl⟩
  generalize w.alloc (.cells #[.int .i64 x, .int .i64 y, .int .i64 z] 47) = W0 at *
  obtain ⟨x0, x1, x2⟩ := HA.out
  rw [hd2]
  go_wp2_with fail
  refine (HK1.out W0 (HL.out.below hB0.out)).mono ?_
  rintro e w1 ⟨q1, A, c, rfl, hA⟩
  have p1 := hB0.out.trans (q1.mono hB0.out.size)
  have HA1 := hid (HA.out.below q1)
  obtain ⟨x0, x1, x2⟩ := HA1.out
  have HX := hid hA
  clear hA
  go_wp2_with fail
  refine (HK2.out w1 (HL.out.below p1)).mono ?_
  rintro e w2 ⟨q2, B, d, rfl, hB⟩
  have p2 := p1.trans (q2.mono p1.size)
  have HY := hid (sameInts5_any A B xs c d w2 (HX.out.below q2) hB)
  have HA2 := hid (HA1.out.below q2)
  clear hB HX x0 x1 x2 HA HA1
  go_wp2_with fail
  refine HY.out.mono ?_
  rintro e w' ⟨n, rfl, rfl⟩
  have HA3 := hid (HA2.out.below (below_drewN (Below.refl _ _) n))
  have p3 := below_drewN p2 n
  clear HA2 HY p2 q2
  generalize w2.drewN n = w3 at *
  have HA4 := hid (fun W (h : Below w3.heap.size w3 W) => HA3.out.below h)
  have hs0 : w.heap.size ≤ w3.heap.size := p3.size
  have HP3 := hid p3
  clear p3 HA3
  go_wp2
  go_loopw [9, 10] (fun s i wr => ∃ m : Nat, m ≤ 10 ∧ i = .int .i64 m ∧ s = .int .i64 ((sumN (fun m => (kidsTo (kidG l x y) (m : Int) 100).length) m : Nat) : Int) ∧ (sumN (fun m => (kidsTo (kidG l x y) (m : Int) 100).length) m) ≤ m * 100 ∧ Below w3.heap.size w3 wr) (fun _ i _ => 10 - (intOf i).toNat)
  case atStart => exact ⟨0, Nat.zero_le _, rfl, rfl, Nat.le_refl _, Below.refl _ _⟩
  case round =>
    obtain ⟨m, hm, rfl, rfl, hsm, hB⟩ := hrel
    obtain ⟨x0, x1, x2⟩ := HA4.out wr hB
    by_cases hlt : m < 10
    · have HK := hid (HK3.out wr (HL.out.below (HP3.out.trans (hB.mono hs0))) m (by omega))
      have hkl := HLen.out m
      have HS := hid (show sumN (fun m => (kidsTo (kidG l x y) (m : Int) 100).length) (m + 1) = sumN (fun m => (kidsTo (kidG l x y) (m : Int) 100).length) m + (kidsTo (kidG l x y) (m : Int) 100).length from rfl)
      generalize sumN (fun m => (kidsTo (kidG l x y) (m : Int) 100).length) m = S at *
      generalize kidsTo (kidG l x y) (m : Int) 100 = ys at *
      go_wp2_with fail
      refine HK.out.mono ?_
      rintro e w4 ⟨q4, A4, c4, rfl, hA4⟩
      clear hA4 HK
      go_wp2
      go_roundw
      case rel => exact ⟨m + 1, by omega, by go_num, by rw [HS.out]; go_num, by rw [HS.out]; omega, hB.trans (q4.mono hB.size)⟩
      case measure => simp [intOf]; omega
    · obtain rfl : m = 10 := by omega
      rw [HSum.out]
      go_wp2_with fail
      refine (known5_any _).mono ?_
      rintro e w5 ⟨q5, rfl⟩
      go_wp2
      go_ret
      exact ⟨HP3.out.trans ((hB.trans (q5.mono hB.size)).mono hs0), rfl⟩

set_option maxRecDepth 100000 in
set_option maxHeartbeats 1000000 in
theorem orderChildren_long (a : Option Addr) (n cap : Nat) (x y z : Int) (w : World) (h0 : n ≤ 9223372036854775807) (h200 : 200 < n) :
  Calls Try.prog 6 #[.slice a n cap, .agg #[.int .i64 x, .int .i64 y, .int .i64 z]] w (BoolR w true) := by
  have hB0 := hid (below_new w (.cells #[.int .i64 x, .int .i64 y, .int .i64 z] 47))
  have hd2 : decide ((200 : Int) < (n : Int)) = true := by simp; omega
  go_enter Try.func6, Try.ntmps6
  go_wp2_with fail
  refine (long5_any _ _ _ _ h0).mono ?_
  rintro e w' ⟨rfl, rfl⟩
  rw [hd2]
  go_wp2_with fail
  refine (known5_any _).mono ?_
  rintro e w5 ⟨q5, rfl⟩
  go_wp2
  go_ret
  exact ⟨hB0.out.trans (q5.mono (by simp)), rfl⟩
theorem orderChildren_walk (a : Option Addr) (l : List Fct) (cap : Nat) (x y z : Int) (w : World) (h0 : l.length ≤ 9223372036854775807) (hl : l.length ≤ 140737488355328 → FactsAt w a l) (hcap : l.length ≤ cap) :
  Calls Try.prog 6 #[.slice a l.length cap, .agg #[.int .i64 x, .int .i64 y, .int .i64 z]] w (BoolR w true) := by
  by_cases h : 200 < l.length
  · exact orderChildren_long a l.length cap x y z w h0 h
  · by_cases hE : kidE l y z = 0
    · exact orderChildren_ok a l cap x y z w (hl (by omega)) hcap (by omega) hE
    · exact orderChildren_bad a l cap x y z w (hl (by omega)) hcap (by omega) hE
end Go.Proofs.Ytcncnakpehnadaa
