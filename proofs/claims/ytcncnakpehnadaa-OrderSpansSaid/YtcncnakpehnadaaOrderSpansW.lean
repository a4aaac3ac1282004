/- The laws OrderSpans and OrderChanges: their walks. -/
import Derived.Test.YtcncnakpehnadaaOrP
set_option linter.unusedVariables false
namespace Go.Proofs.Ytcncnakpehnadaa
open Go.RowKit

set_option maxRecDepth 100000 in
set_option maxHeartbeats 4000000 in
theorem orderSpans_main (a : Option Addr) (l : List Fct) (cap : Nat) (x y z : Int) (w : World) (hl : FactsAt w a l) (hcap : l.length ≤ cap) (h200 : l.length ≤ 200) :
  Calls Try.prog 5 #[.slice a l.length cap, .agg #[.int .i64 x, .int .i64 y, .int .i64 z]] w (BoolR w true) := by
  have hlen := hl.len
  have HA := hid (askAt_new w x y z 36)
  have HL := hid hl
  have hB0 := hid (below_new w (.cells #[.int .i64 x, .int .i64 y, .int .i64 z] 36))
  have hd : ¬ (200 : Int) < (l.length : Int) := by omega
  have hd2 : decide ((200 : Int) < (l.length : Int)) = false := by simpa using hd
  have HK1 := hid (fun W (h : FactsAt W a l) => Spans_any a l cap x y W h hcap)
  have HK2 := hid (fun W (h : FactsAt W a l) => rSpans_any a l cap x y W h)
  generalize spansL l x y = X at *
  obtain ⟨s, e0⟩ := X
  clear hl
  go_enter Try.func5, Try.ntmps5
  go_wp2_with fail
  refine (long5_any _ _ _ _ (by omega)).mono ?_
  rintro e w' ⟨rfl, rfl⟩
  generalize w.alloc (.cells #[.int .i64 x, .int .i64 y, .int .i64 z] 36) = W0 at *
  obtain ⟨x0, x1, x2⟩ := HA.out
  rw [hd2]
  go_wp2_with fail
  refine (HK1.out W0 (HL.out.below hB0.out)).mono ?_
  rintro e w1 ⟨q1, A, c, rfl, hA⟩
  have p1 := hB0.out.trans (q1.mono hB0.out.size)
  obtain ⟨x0, x1, x2⟩ := HA.out.below q1
  have HX := hid hA
  clear hA
  go_wp2_with fail
  refine (HK2.out w1 (HL.out.below p1)).mono ?_
  rintro e w2 ⟨q2, B, d, rfl, hB⟩
  have p2 := p1.trans (q2.mono p1.size)
  have HY := hid (sameSpans_any A B s c d w2 (HX.out.below q2) hB)
  have hsl := hB.len
  clear hB
  go_wp2_with fail
  refine HY.out.mono ?_
  rintro e w' ⟨n, rfl, rfl⟩
  go_wp2_with fail
  refine (known5_any _).mono ?_
  rintro e w5 ⟨q5, rfl⟩
  go_wp2
  go_ret
  exact ⟨(below_drewN p2 n).trans (q5.mono (below_drewN p2 n).size), rfl⟩
set_option maxRecDepth 100000 in
set_option maxHeartbeats 4000000 in
theorem orderChanges_main (a : Option Addr) (l : List Fct) (cap : Nat) (x y z : Int) (w : World) (hl : FactsAt w a l) (hcap : l.length ≤ cap) (h200 : l.length ≤ 200) :
  Calls Try.prog 8 #[.slice a l.length cap, .agg #[.int .i64 x, .int .i64 y, .int .i64 z]] w (BoolR w true) := by
  have hlen := hl.len
  have HA := hid (askAt_new w x y z 58)
  have HL := hid hl
  have hB0 := hid (below_new w (.cells #[.int .i64 x, .int .i64 y, .int .i64 z] 58))
  have hd : ¬ (200 : Int) < (l.length : Int) := by omega
  have hd2 : decide ((200 : Int) < (l.length : Int)) = false := by simpa using hd
  have HK1 := hid (fun W (h : FactsAt W a l) => Changed_any a l cap x y z W h hcap)
  have HK2 := hid (fun W (h : FactsAt W a l) => rChanged_any a l cap x y z W h)
  generalize changedL l x y z = X at *
  obtain ⟨s, e0⟩ := X
  clear hl
  go_enter Try.func8, Try.ntmps8
  go_wp2_with fail
  refine (long5_any _ _ _ _ (by omega)).mono ?_
  rintro e w' ⟨rfl, rfl⟩
  generalize w.alloc (.cells #[.int .i64 x, .int .i64 y, .int .i64 z] 58) = W0 at *
  obtain ⟨x0, x1, x2⟩ := HA.out
  rw [hd2]
  go_wp2_with fail
  refine (HK1.out W0 (HL.out.below hB0.out)).mono ?_
  rintro e w1 ⟨q1, A, c, rfl, hA⟩
  have p1 := hB0.out.trans (q1.mono hB0.out.size)
  obtain ⟨x0, x1, x2⟩ := HA.out.below q1
  have HX := hid hA
  clear hA
  go_wp2_with fail
  refine (HK2.out w1 (HL.out.below p1)).mono ?_
  rintro e w2 ⟨q2, B, d, rfl, hB⟩
  have p2 := p1.trans (q2.mono p1.size)
  have HY := hid (sameSpans_any A B s c d w2 (HX.out.below q2) hB)
  have hsl := hB.len
  clear hB
  go_wp2_with fail
  refine HY.out.mono ?_
  rintro e w' ⟨n, rfl, rfl⟩
  go_wp2_with fail
  refine (known5_any _).mono ?_
  rintro e w5 ⟨q5, rfl⟩
  go_wp2
  go_ret
  exact ⟨(below_drewN p2 n).trans (q5.mono (below_drewN p2 n).size), rfl⟩

set_option maxRecDepth 100000 in
set_option maxHeartbeats 1000000 in
theorem orderSpans_long (a : Option Addr) (n cap : Nat) (x y z : Int) (w : World) (h0 : n ≤ 9223372036854775807) (h200 : 200 < n) :
  Calls Try.prog 5 #[.slice a n cap, .agg #[.int .i64 x, .int .i64 y, .int .i64 z]] w (BoolR w true) := by
  have hB0 := hid (below_new w (.cells #[.int .i64 x, .int .i64 y, .int .i64 z] 36))
  have hd2 : decide ((200 : Int) < (n : Int)) = true := by simp; omega
  go_enter Try.func5, Try.ntmps5
  go_wp2_with fail
  refine (long5_any _ _ _ _ h0).mono ?_
  rintro e w' ⟨rfl, rfl⟩
  rw [hd2]
  go_wp2_with fail
  refine (known5_any _).mono ?_
  rintro e w5 ⟨q5, rfl⟩
  go_wp2
  go_ret
  exact ⟨hB0.out.trans (q5.mono (by simp)), rfl⟩
set_option maxRecDepth 100000 in
set_option maxHeartbeats 1000000 in
theorem orderChanges_long (a : Option Addr) (n cap : Nat) (x y z : Int) (w : World) (h0 : n ≤ 9223372036854775807) (h200 : 200 < n) :
  Calls Try.prog 8 #[.slice a n cap, .agg #[.int .i64 x, .int .i64 y, .int .i64 z]] w (BoolR w true) := by
  have hB0 := hid (below_new w (.cells #[.int .i64 x, .int .i64 y, .int .i64 z] 58))
  have hd2 : decide ((200 : Int) < (n : Int)) = true := by simp; omega
  go_enter Try.func8, Try.ntmps8
  go_wp2_with fail
  refine (long5_any _ _ _ _ h0).mono ?_
  rintro e w' ⟨rfl, rfl⟩
  rw [hd2]
  go_wp2_with fail
  refine (known5_any _).mono ?_
  rintro e w5 ⟨q5, rfl⟩
  go_wp2
  go_ret
  exact ⟨hB0.out.trans (q5.mono (by simp)), rfl⟩
theorem orderSpans_walk (a : Option Addr) (l : List Fct) (cap : Nat) (x y z : Int) (w : World) (h0 : l.length ≤ 9223372036854775807) (hl : l.length ≤ 140737488355328 → FactsAt w a l) (hcap : l.length ≤ cap) :
  Calls Try.prog 5 #[.slice a l.length cap, .agg #[.int .i64 x, .int .i64 y, .int .i64 z]] w (BoolR w true) := by
  by_cases h : 200 < l.length
  · exact orderSpans_long a l.length cap x y z w h0 h
  · exact orderSpans_main a l cap x y z w (hl (by omega)) hcap (by omega)
theorem orderChanges_walk (a : Option Addr) (l : List Fct) (cap : Nat) (x y z : Int) (w : World) (h0 : l.length ≤ 9223372036854775807) (hl : l.length ≤ 140737488355328 → FactsAt w a l) (hcap : l.length ≤ cap) :
  Calls Try.prog 8 #[.slice a l.length cap, .agg #[.int .i64 x, .int .i64 y, .int .i64 z]] w (BoolR w true) := by
  by_cases h : 200 < l.length
  · exact orderChanges_long a l.length cap x y z w h0 h
  · exact orderChanges_main a l cap x y z w (hl (by omega)) hcap (by omega)
end Go.Proofs.Ytcncnakpehnadaa
