/- The law OrderAdds: its walk. -/
import Derived.Test.YtkepjoociidkcaaOrAdds
set_option linter.unusedVariables false
namespace Go.Proofs.Ytkepjoociidkcaa
open Go.RowKit

set_option maxRecDepth 100000 in
set_option maxHeartbeats 4000000 in
theorem orderAdds_main (a : Option Addr) (l : List Fct) (cap : Nat) (x : Fct) (w : World) (hl : FactsAt w a l) (h200 : l.length ≤ 200) (ms : List Fct) (e1 : Int) (hM : addL l x = (ms, e1)) (hm : ms.length ≤ 1000) :
  Calls Try.prog 3 #[.slice a l.length cap, .agg #[.int .i64 x.a, .int .i64 x.c, .int .i64 x.f, .int .i64 x.t, .int .i64 x.m]] w (BoolR w true) := by
  have hlen := hl.len
  have HX := hid (fctAt_new w x 24)
  have HL := hid hl
  have hB0 := hid (below_new w (.cells #[.int .i64 x.a, .int .i64 x.c, .int .i64 x.f, .int .i64 x.t, .int .i64 x.m] 24))
  have hd2 : decide ((200 : Int) < (l.length : Int)) = false := by simp; omega
  have HK1 := hid (fun W A c (h : FactsAt W A l) (hc : l.length ≤ c) => Add_any A l c x W h hc)
  have HK2 := hid (fun W (h : FactsAt W a l) => rAdd_any a l cap x W h)
  rw [hM] at HK1 HK2
  clear hl hM
  go_enter Try.func3, Try.ntmps3
  go_wp2_with fail
  refine (long5_any _ _ _ _ (by omega)).mono ?_
  rintro e w' ⟨rfl, rfl⟩
  generalize w.alloc (.cells #[.int .i64 x.a, .int .i64 x.c, .int .i64 x.f, .int .i64 x.t, .int .i64 x.m] 24) = W0 at *
  obtain ⟨x0, x1, x2, x3, x4⟩ := HX.out
  simp only [Nat.zero_add] at x1 x2 x3 x4
  rw [hd2]
  go_wp2_with fail
  refine (copied5_any a l cap W0 (HL.out.below hB0.out) (by omega)).mono ?_
  rintro e w1 ⟨q1, A1, c1, rfl, hc1, hA1⟩
  have p1 := hB0.out.trans (q1.mono hB0.out.size)
  have HX1 := hid (HX.out.below q1)
  have HO1 := hid hA1
  clear x0 x1 x2 x3 x4 hA1
  obtain ⟨x0, x1, x2, x3, x4⟩ := HX1.out
  simp only [Nat.zero_add] at x1 x2 x3 x4
  go_wp2_with fail
  refine (HK1.out w1 A1 c1 HO1.out hc1).mono ?_
  rintro e w2 ⟨q2, A2, c2, rfl, hc2, hA2⟩
  have p2 := p1.trans (q2.mono p1.size)
  have HX2 := hid (HX1.out.below q2)
  have HO2 := hid (HO1.out.below q2)
  have HR2 := hid hA2
  have hs2 := q2.size
  have hs1 := p1.size
  have r2 : Below w1.heap.size w1 w2 := q2
  clear x0 x1 x2 x3 x4 hA2
  obtain ⟨x0, x1, x2, x3, x4⟩ := HX2.out
  simp only [Nat.zero_add] at x1 x2 x3 x4
  go_wp2_with fail
  refine (HK2.out w2 (HL.out.below p2)).mono ?_
  rintro e w3 ⟨q3, A3, c3, rfl, hc3, hA3⟩
  have p3 := p2.trans (q3.mono p2.size)
  have HO3 := hid (HO2.out.below q3)
  have HR3 := hid (own_below HR2.out q3)
  have HT3 := hid hA3
  have hs3 := q3.size
  have r3 := r2.trans (q3.mono r2.size)
  clear x0 x1 x2 x3 x4 hA3
  go_wp2_with fail
  refine (validate_any a l cap w3 (HL.out.below p3)).mono ?_
  rintro e w4 ⟨q4, rfl⟩
  have p4 := p3.trans (q4.mono p3.size)
  have hs4 := q4.size
  have r4 := r3.trans (q4.mono r3.size)
  go_wp2_with fail
  refine (rvalidate_any a l cap w4 (HL.out.below p4)).mono ?_
  rintro e w5 ⟨q5, rfl⟩
  have p5 := p4.trans (q5.mono p4.size)
  have hs5 := q5.size
  have r5 := r4.trans (q5.mono r4.size)
  have HR5 := hid (own_below (own_below HR3.out q4) q5)
  have HO5 := hid ((HO3.out.below q4).below q5)
  have HT5 := hid ((HT3.out.below q4).below q5)
  have hat := hid (OwnF.at_ HR5.out (by omega))
  go_wp2_with fail
  refine (sameFacts_any A2 A3 ms c2 c3 w5 hat.out HT5.out).mono ?_
  rintro e w' ⟨n, rfl, rfl⟩
  have p6 := below_drewN p5 n
  have r6 := below_drewN r5 n
  have HR6 := hid (own_below HR5.out (below_drewN (Below.refl _ _) n))
  have hw2 : w1.heap.size ≤ (w5.drewN n).heap.size := by have := (below_drewN (Below.refl w5.heap.size w5) n).size; omega
  have HO6 := hid (HO5.out.below (below_drewN (Below.refl _ _) n))
  generalize w5.drewN n = w6 at *
  go_wp2_with fail
  refine (spoil_any A2 c2 ms.length w1.heap.size _ w6 HR6.out hw2 hm).mono ?_
  rintro e w7 ⟨q7, rfl⟩
  have p7 := p6.trans (q7.mono hs1)
  have HO7 := hid (HO1.out.below (r6.trans q7))
  have HL7 := hid (HL.out.below p7)
  go_wp2_with fail
  refine (sameFacts_any A1 a l c1 cap w7 HO7.out HL7.out).mono ?_
  rintro e w' ⟨n2, rfl, rfl⟩
  have p8 := below_drewN p7 n2
  go_wp2_with fail
  refine (known5_any _).mono ?_
  rintro e w9 ⟨q9, rfl⟩
  go_wp2
  go_ret
  exact ⟨p8.trans (q9.mono p8.size), rfl⟩

set_option maxRecDepth 100000 in
set_option maxHeartbeats 1000000 in
theorem orderAdds_long (a : Option Addr) (n cap : Nat) (x : Fct) (w : World) (h0 : n ≤ 9223372036854775807) (h200 : 200 < n) :
  Calls Try.prog 3 #[.slice a n cap, .agg #[.int .i64 x.a, .int .i64 x.c, .int .i64 x.f, .int .i64 x.t, .int .i64 x.m]] w (BoolR w true) := by
  have hB0 := hid (below_new w (.cells #[.int .i64 x.a, .int .i64 x.c, .int .i64 x.f, .int .i64 x.t, .int .i64 x.m] 24))
  have hd2 : decide ((200 : Int) < (n : Int)) = true := by simp; omega
  go_enter Try.func3, Try.ntmps3
  go_wp2_with fail
  refine (long5_any _ _ _ _ h0).mono ?_
  rintro e w' ⟨rfl, rfl⟩
  rw [hd2]
  go_wp2_with fail
  refine (known5_any _).mono ?_
  rintro e w5 ⟨q5, rfl⟩
  go_wp2
  go_ret
  exact ⟨hB0.out.trans (q5.mono (by simp)), rfl⟩
theorem addL_len (l : List Fct) (x : Fct) : (addL l x).1.length ≤ 1000 := by
  unfold addL
  split
  · rename_i h
    have := (validE_ok h).1
    split
    · simp; omega
    · simp
  · simp
theorem orderAdds_walk (a : Option Addr) (l : List Fct) (cap : Nat) (x : Fct) (w : World) (h0 : l.length ≤ 9223372036854775807) (hl : l.length ≤ 140737488355328 → FactsAt w a l) :
  Calls Try.prog 3 #[.slice a l.length cap, .agg #[.int .i64 x.a, .int .i64 x.c, .int .i64 x.f, .int .i64 x.t, .int .i64 x.m]] w (BoolR w true) := by
  by_cases h : 200 < l.length
  · exact orderAdds_long a l.length cap x w h0 h
  · exact orderAdds_main a l cap x w (hl (by omega)) (by omega) _ _ rfl (addL_len l x)
end Go.Proofs.Ytkepjoociidkcaa
