/- The law OrderTells: its walk. -/
import Derived.Test.YtcncnakpehnadaaOrUntil
import Derived.Test.YtcncnakpehnadaaOrL
import Derived.Test.YtcncnakpehnadaaOrKidR
set_option linter.unusedVariables false
namespace Go.Proofs.Ytcncnakpehnadaa
open Go.RowKit

/-- By the facts up to a minute the same is known at it. -/
theorem until_known (l : List Fct) (at_ c d : Int) (h : validE l = 0) : knownL (l.take (cutL at_ l)) at_ c d = knownL l at_ c d := by
  have hv := validE_take l (cutL at_ l) h
  have hE : askE (l.take (cutL at_ l)) c d = askE l c d := by unfold askE chkE; rw [if_pos h, if_pos hv]
  unfold knownL
  rw [hE, cutL_take, mealK_take _ _ _ _ _ (Nat.le_refl _)]

set_option maxRecDepth 100000 in
set_option maxHeartbeats 4000000 in
theorem orderTells_main (a : Option Addr) (l : List Fct) (cap : Nat) (x y z : Int) (w : World) (hl : FactsAt w a l) (hcap : l.length ≤ cap) (h200 : l.length ≤ 200)
  (hs us : List Fct) (e1 e2 m1 f1 m2 f2 : Int) (hH : histL l y z = (hs, e1)) (hU : untilL l x = (us, e2)) (hK1 : knownL l x y z = (m1, f1)) (hK2 : knownL us x y z = (m2, f2)) (hE : e2 = 0 → m1 = m2 ∧ f1 = f2) :
  Calls Try.prog 9 #[.slice a l.length cap, .agg #[.int .i64 x, .int .i64 y, .int .i64 z]] w (BoolR w true) := by
  have hlen := hl.len
  have HA := hid (askAt_new w x y z 36)
  have HL := hid hl
  have hB0 := hid (below_new w (.cells #[.int .i64 x, .int .i64 y, .int .i64 z] 36))
  have hd : ¬ (200 : Int) < (l.length : Int) := by omega
  have hd2 : decide ((200 : Int) < (l.length : Int)) = false := by simpa using hd
  have HK1 := hid (fun W (h : FactsAt W a l) => History_any a l cap y z W h)
  have HK2 := hid (fun W (h : FactsAt W a l) => rHistory_any a l cap y z W h)
  have HK3 := hid (fun W (h : FactsAt W a l) => Until_any a l cap x W h hcap)
  have HK4 := hid (fun W (h : FactsAt W a l) => rUntil_any a l cap x W h)
  have HK5 := hid (fun W (h : FactsAt W a l) => Known_any a l cap x y z W h hcap)
  have HK6 := hid (fun W A c (h : FactsAt W A us) (hc : us.length ≤ c) => Known_any A us c x y z W h hc)
  rw [hH] at HK1 HK2
  rw [hU] at HK3 HK4
  rw [hK1] at HK5
  rw [hK2] at HK6
  have HE := hid hE
  clear hl hH hU hK1 hK2 hE
  go_enter Try.func9, Try.ntmps9
  go_wp2_with fail
  refine (long5_any _ _ _ _ (by omega)).mono ?_
  rintro e w' ⟨rfl, rfl⟩
  generalize w.alloc (.cells #[.int .i64 x, .int .i64 y, .int .i64 z] 36) = W0 at *
  obtain ⟨x0, x1, x2⟩ := HA.out
  rw [hd2]
  go_wp2_with fail
  refine (HK1.out W0 (HL.out.below hB0.out)).mono ?_
  rintro e w1 ⟨q1, A1, c1, rfl, _, hA1⟩
  have p1 := hB0.out.trans (q1.mono hB0.out.size)
  have HB1 := hid (HA.out.below q1)
  obtain ⟨x0, x1, x2⟩ := HB1.out
  have HX1 := hid hA1
  clear hA1
  go_wp2_with fail
  refine (HK2.out w1 (HL.out.below p1)).mono ?_
  rintro e w2 ⟨q2, A2, c2, rfl, _, hA2⟩
  have p2 := p1.trans (q2.mono p1.size)
  have HB2 := hid (HB1.out.below q2)
  obtain ⟨x0, x1, x2⟩ := HB2.out
  have HX2 := hid (HX1.out.below q2)
  have HY2 := hid hA2
  have hhl := hA2.len
  clear hA2
  go_wp2_with fail
  refine (HK3.out w2 (HL.out.below p2)).mono ?_
  rintro e w3 ⟨q3, A3, c3, rfl, hcc, hA3⟩
  have p3 := p2.trans (q3.mono p2.size)
  have HB3 := hid (HB2.out.below q3)
  obtain ⟨x0, x1, x2⟩ := HB3.out
  have HX3 := hid (HX2.out.below q3)
  have HY3 := hid (HY2.out.below q3)
  have HZ3 := hid hA3
  have hul := hA3.len
  clear hA3
  go_wp2_with fail
  refine (HK4.out w3 (HL.out.below p3)).mono ?_
  rintro e w4 ⟨q4, A4, c4, rfl, _, hA4⟩
  have p4 := p3.trans (q4.mono p3.size)
  have HB4 := hid (HB3.out.below q4)
  obtain ⟨x0, x1, x2⟩ := HB4.out
  have HS1 := hid (sameFacts_any A1 A2 hs c1 c2 w4 (HX3.out.below q4) (HY3.out.below q4))
  have HZ4 := hid (HZ3.out.below q4)
  have HT4 := hid hA4
  clear hA4
  go_wp2_with fail
  refine HS1.out.mono ?_
  rintro e w' ⟨n, rfl, rfl⟩
  have HS2 := hid (sameFacts_any A3 A4 us c3 c4 (w4.drewN n) (HZ4.out.drew n) (HT4.out.drew n))
  go_wp2_with fail
  refine HS2.out.mono ?_
  rintro e w' ⟨n2, rfl, rfl⟩
  have p5 := below_drewN (below_drewN p4 n) n2
  have HB5 := hid (HB4.out.below (below_drewN (below_drewN (Below.refl _ _) n) n2))
  have HZ5 := hid ((HZ4.out.drew n).drew n2)
  clear HS1 HS2 HB4 HZ4 HT4 x0 x1 x2
  generalize (w4.drewN n).drewN n2 = w5 at *
  obtain ⟨x0, x1, x2⟩ := HB5.out
  go_wp2_with fail
  refine (HK5.out w5 (HL.out.below p5)).mono ?_
  rintro e w6 ⟨q6, rfl⟩
  have p6 := p5.trans (q6.mono p5.size)
  obtain ⟨x0, x1, x2⟩ := HB5.out.below q6
  go_wp2_with fail
  refine (HK6.out w6 A3 c3 (HZ5.out.below q6) hcc).mono ?_
  rintro e w7 ⟨q7, rfl⟩
  have p7 := p6.trans (q7.mono p6.size)
  by_cases h2 : e2 = 0
  · obtain ⟨h3, h4⟩ := HE.out h2
    subst h2 h3 h4
    go_wp2_with fail
    refine (known5_any w7).mono ?_
    rintro e w8 ⟨q8, rfl⟩
    go_wp2
    go_ret
    exact ⟨p7.trans (q8.mono p7.size), rfl⟩
  · have h2' : (e2 != 0) = true := by simp [h2]
    clear h2
    go_wp2_with fail
    refine (known5_any w7).mono ?_
    rintro e w8 ⟨q8, rfl⟩
    go_wp2
    go_ret
    exact ⟨p7.trans (q8.mono p7.size), rfl⟩

set_option maxRecDepth 100000 in
set_option maxHeartbeats 1000000 in
theorem orderTells_long (a : Option Addr) (n cap : Nat) (x y z : Int) (w : World) (h0 : n ≤ 9223372036854775807) (h200 : 200 < n) :
  Calls Try.prog 9 #[.slice a n cap, .agg #[.int .i64 x, .int .i64 y, .int .i64 z]] w (BoolR w true) := by
  have hB0 := hid (below_new w (.cells #[.int .i64 x, .int .i64 y, .int .i64 z] 36))
  have hd2 : decide ((200 : Int) < (n : Int)) = true := by simp; omega
  go_enter Try.func9, Try.ntmps9
  go_wp2_with fail
  refine (long5_any _ _ _ _ h0).mono ?_
  rintro e w' ⟨rfl, rfl⟩
  rw [hd2]
  go_wp2_with fail
  refine (known5_any _).mono ?_
  rintro e w5 ⟨q5, rfl⟩
  go_wp2
  go_ret
  exact ⟨hB0.out.trans (q5.mono (by simp)), rfl⟩
theorem orderTells_walk (a : Option Addr) (l : List Fct) (cap : Nat) (x y z : Int) (w : World) (h0 : l.length ≤ 9223372036854775807) (hl : l.length ≤ 140737488355328 → FactsAt w a l) (hcap : l.length ≤ cap) :
  Calls Try.prog 9 #[.slice a l.length cap, .agg #[.int .i64 x, .int .i64 y, .int .i64 z]] w (BoolR w true) := by
  by_cases h : 200 < l.length
  · exact orderTells_long a l.length cap x y z w h0 h
  · by_cases hv : validE l = 0
    · exact orderTells_main a l cap x y z w (hl (by omega)) hcap (by omega) (histL l y z).1 (l.take (cutL x l)) (histL l y z).2 0 (knownL l x y z).1 (knownL l x y z).2 (knownL l x y z).1 (knownL l x y z).2 rfl (if_pos hv) rfl (until_known l x y z hv) (fun _ => ⟨rfl, rfl⟩)
    · exact orderTells_main a l cap x y z w (hl (by omega)) hcap (by omega) (histL l y z).1 [] (histL l y z).2 (validE l) (knownL l x y z).1 (knownL l x y z).2 (knownL [] x y z).1 (knownL [] x y z).2 rfl (if_neg hv) rfl rfl (fun h => absurd h hv)
end Go.Proofs.Ytcncnakpehnadaa
