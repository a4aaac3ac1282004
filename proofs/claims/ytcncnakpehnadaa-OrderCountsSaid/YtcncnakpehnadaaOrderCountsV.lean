/- The law OrderCounts: its walk. -/
import Derived.Test.YtcncnakpehnadaaOrderCountsW
set_option linter.unusedVariables false
namespace Go.Proofs.Ytcncnakpehnadaa
open Go.RowKit

set_option maxRecDepth 100000 in
set_option maxHeartbeats 4000000 in
theorem orderCounts_main (a : Option Addr) (l : List Fct) (cap : Nat) (x y z u v : Int) (w : World) (hl : FactsAt w a l) (hcap : l.length ≤ cap) (h200 : l.length ≤ 200) (hq : ¬ (60 : Int) < wrap64 (z - y))
  (k1 e1 k2 e2 k3 e3 : Int) (hK1 : countL l x y z u = (k1, e1)) (hK2 : countL l x y v u = (k2, e2)) (hK3 : countL l x v z u = (k3, e3)) (hb : e2 = 0 → e3 = 0 → e1 = 0 ∧ k2 + k3 = k1) (b2 : 0 ≤ k2 ∧ k2 ≤ 100000) (b3 : 0 ≤ k3 ∧ k3 ≤ 100000) :
  Calls Try.prog 7 #[.slice a l.length cap, .agg #[.int .i64 x, .int .i64 y, .int .i64 z, .int .i64 u], .int .i64 v] w (BoolR w true) := by
  have hlen := hl.len
  have HA := hid (strAt_new w x y z u 54)
  have HL := hid hl
  have hB0 := hid (below_new w (.cells #[.int .i64 x, .int .i64 y, .int .i64 z, .int .i64 u] 54))
  have hd : ¬ (200 : Int) < (l.length : Int) := by omega
  have hd2 : decide ((200 : Int) < (l.length : Int)) = false := by simpa using hd
  have HK1 := hid (fun W (h : FactsAt W a l) => Count_any a l cap x y z u W h hcap)
  have HK2 := hid (fun W (h : FactsAt W a l) => rCount_any a l cap x y z u W h)
  have HK3 := hid (fun W (h : FactsAt W a l) => Count_any a l cap x y v u W h hcap)
  have HK4 := hid (fun W (h : FactsAt W a l) => Count_any a l cap x v z u W h hcap)
  rw [hK1] at HK1 HK2
  rw [hK2] at HK3
  rw [hK3] at HK4
  have HBd := hid hb
  clear hl hK1 hK2 hK3 hb
  go_enter Try.func7, Try.ntmps7
  go_wp2_with fail
  refine (long5_any _ _ _ _ (by omega)).mono ?_
  rintro e w' ⟨rfl, rfl⟩
  generalize w.alloc (.cells #[.int .i64 x, .int .i64 y, .int .i64 z, .int .i64 u] 54) = W0 at *
  obtain ⟨x0, x1, x2, x3⟩ := HA.out
  rw [hd2]
  go_wp2_with fail
  refine (HK1.out W0 (HL.out.below hB0.out)).mono ?_
  rintro e w1 ⟨q1, rfl⟩
  have p1 := hB0.out.trans (q1.mono hB0.out.size)
  have HA1 := hid (HA.out.below q1)
  obtain ⟨x0, x1, x2, x3⟩ := HA1.out
  go_wp2_with fail
  refine (HK2.out w1 (HL.out.below p1)).mono ?_
  rintro e w2 ⟨q2, rfl⟩
  have p2 := p1.trans (q2.mono p1.size)
  have HA2 := hid (HA1.out.below q2)
  obtain ⟨x0, x1, x2, x3⟩ := HA2.out
  go_wp2_with fail
  refine (HK3.out w2 (HL.out.below p2)).mono ?_
  rintro e w3 ⟨q3, rfl⟩
  have p3 := p2.trans (q3.mono p2.size)
  have HA3 := hid (HA2.out.below q3)
  obtain ⟨x0, x1, x2, x3⟩ := HA3.out
  go_wp2_with fail
  refine (HK4.out w3 (HL.out.below p3)).mono ?_
  rintro e w4 ⟨q4, rfl⟩
  have p4 := p3.trans (q4.mono p3.size)
  by_cases h2 : e2 = 0
  · by_cases h3 : e3 = 0
    · obtain ⟨h1, hs⟩ := HBd.out h2 h3
      subst h1 h2 h3 hs
      go_wp2_with fail
      refine (known5_any w4).mono ?_
      rintro e w5 ⟨q5, rfl⟩
      go_wp2
      go_ret
      exact ⟨p4.trans (q5.mono p4.size), rfl⟩
    · have h3' : (e3 != 0) = true := by simp [h3]
      subst h2
      clear h3
      go_wp2_with fail
      refine (known5_any w4).mono ?_
      rintro e w5 ⟨q5, rfl⟩
      go_wp2
      go_ret
      exact ⟨p4.trans (q5.mono p4.size), rfl⟩
  · have h2' : (e2 != 0) = true := by simp [h2]
    clear h2
    go_wp2_with fail
    refine (known5_any w4).mono ?_
    rintro e w5 ⟨q5, rfl⟩
    go_wp2
    go_ret
    exact ⟨p4.trans (q5.mono p4.size), rfl⟩

set_option maxRecDepth 100000 in
set_option maxHeartbeats 1000000 in
theorem orderCounts_long (a : Option Addr) (n cap : Nat) (x y z u v : Int) (w : World) (h0 : n ≤ 9223372036854775807) (h200 : 200 < n) :
  Calls Try.prog 7 #[.slice a n cap, .agg #[.int .i64 x, .int .i64 y, .int .i64 z, .int .i64 u], .int .i64 v] w (BoolR w true) := by
  have hB0 := hid (below_new w (.cells #[.int .i64 x, .int .i64 y, .int .i64 z, .int .i64 u] 54))
  have hd2 : decide ((200 : Int) < (n : Int)) = true := by simp; omega
  go_enter Try.func7, Try.ntmps7
  go_wp2_with fail
  refine (long5_any _ _ _ _ h0).mono ?_
  rintro e w' ⟨rfl, rfl⟩
  rw [hd2]
  go_wp2_with fail
  refine (known5_any _).mono ?_
  rintro e w5 ⟨q5, rfl⟩
  go_wp2
  go_ret
  exact ⟨hB0.out.trans (q5.mono (by simp)), rfl⟩
set_option maxRecDepth 100000 in
set_option maxHeartbeats 1000000 in
theorem orderCounts_wide (a : Option Addr) (n cap : Nat) (x y z u v : Int) (w : World) (h0 : n ≤ 9223372036854775807) (h200 : n ≤ 200) (hq : (60 : Int) < wrap64 (z - y)) :
  Calls Try.prog 7 #[.slice a n cap, .agg #[.int .i64 x, .int .i64 y, .int .i64 z, .int .i64 u], .int .i64 v] w (BoolR w true) := by
  have hB0 := hid (below_new w (.cells #[.int .i64 x, .int .i64 y, .int .i64 z, .int .i64 u] 54))
  have hd2 : decide ((200 : Int) < (n : Int)) = false := by simp; omega
  go_enter Try.func7, Try.ntmps7
  go_wp2_with fail
  refine (long5_any _ _ _ _ h0).mono ?_
  rintro e w' ⟨rfl, rfl⟩
  rw [hd2]
  go_wp2_with fail
  refine (known5_any _).mono ?_
  rintro e w5 ⟨q5, rfl⟩
  go_wp2
  go_ret
  exact ⟨hB0.out.trans (q5.mono (by simp)), rfl⟩
theorem orderCounts_walk (a : Option Addr) (l : List Fct) (cap : Nat) (x y z u v : Int) (w : World) (h0 : l.length ≤ 9223372036854775807) (hl : l.length ≤ 140737488355328 → FactsAt w a l) (hcap : l.length ≤ cap) :
  Calls Try.prog 7 #[.slice a l.length cap, .agg #[.int .i64 x, .int .i64 y, .int .i64 z, .int .i64 u], .int .i64 v] w (BoolR w true) := by
  by_cases h : 200 < l.length
  · exact orderCounts_long a l.length cap x y z u v w h0 h
  · by_cases hq : (60 : Int) < wrap64 (z - y)
    · exact orderCounts_wide a l.length cap x y z u v w h0 (by omega) hq
    · exact orderCounts_main a l cap x y z u v w (hl (by omega)) hcap (by omega) hq _ _ _ _ _ _ rfl rfl rfl (count_adds l x y v z u) (count_bd l x y v u) (count_bd l x v z u)
end Go.Proofs.Ytcncnakpehnadaa
