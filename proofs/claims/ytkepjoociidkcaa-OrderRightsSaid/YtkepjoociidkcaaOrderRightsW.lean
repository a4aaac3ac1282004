/- The law OrderRights: its walk. -/
import Derived.Test.YtkepjoociidkcaaOrRgR
import Derived.Test.YtkepjoociidkcaaOrL
set_option linter.unusedVariables false
namespace Go.Proofs.Ytkepjoociidkcaa
open Go.RowKit

theorem rights_law (r : List Rgt) (c d : Int) : (freeV r c d).2 = 0 → (freeV (rightsV r c).1 c d).2 = 0 ∧ (freeV (rightsV r c).1 c d).1 = (freeV r c d).1 := by
  intro h
  have hE : rightsE r = 0 := by
    by_cases h0 : rightsE r = 0
    · exact h0
    · rw [show freeV r c d = (false, rightsE r) from if_neg h0] at h; exact h
  have e1 : freeV r c d = if inI c 0 99 = true then (if inI d 0 999 = true then (freeL c d r, 0) else (false, 1)) else (false, 1) := if_pos hE
  have hc : inI c 0 99 = true := by
    by_cases h0 : inI c 0 99 = true
    · exact h0
    · rw [e1, if_neg h0] at h; cases h
  have hd : inI d 0 999 = true := by
    by_cases h0 : inI d 0 999 = true
    · exact h0
    · rw [e1, if_pos hc, if_neg h0] at h; cases h
  have e2 : rightsV r c = (toR c (spTo (gFree r c) 1000), 0) := by unfold rightsV; rw [if_pos hE, if_pos hc]
  have hv := rights_valid r c hE hc
  have hdi := inI_iff.1 hd
  have e3 : freeV (toR c (spTo (gFree r c) 1000)) c d = (freeL c d (toR c (spTo (gFree r c) 1000)), 0) := by unfold freeV; rw [if_pos hv, if_pos hc, if_pos hd]
  rw [e2, e3, free_same r c d hdi.1 hdi.2, e1, if_pos hc, if_pos hd]
  exact ⟨rfl, rfl⟩

set_option maxRecDepth 100000 in
set_option maxHeartbeats 4000000 in
theorem orderRights_main (a : Option Addr) (r : List Rgt) (cap : Nat) (x y z : Int) (w : World) (hr : RgtsAt w a r) (h200 : r.length ≤ 200)
  (b1 b2 : Bool) (e1 e2 e3 : Int) (us : List Rgt) (hF : freeV r y z = (b1, e1)) (hU : rightsV r y = (us, e2)) (hG : freeV us y z = (b2, e3)) (hE : e1 = 0 → e3 = 0 ∧ b2 = b1) :
  Calls Try.prog 10 #[.slice a r.length cap, .agg #[.int .i64 x, .int .i64 y, .int .i64 z]] w (BoolR w true) := by
  have hlen := hr.len
  have HA0 := hid (askAt_new w x y z 36)
  have HR := hid hr
  have hB0 := below_new w (.cells #[.int .i64 x, .int .i64 y, .int .i64 z] 36)
  have hd : (r.length : Int) ≤ 200 := by omega
  have HK1 := hid (fun W (h : RgtsAt W a r) => Free_any a r cap y z W h)
  have HK2 := hid (fun W (h : RgtsAt W a r) => rFree_any a r cap y z W h)
  have HK3 := hid (fun W (h : RgtsAt W a r) => Rights_any a r cap y W h)
  have HK4 := hid (fun W (h : RgtsAt W a r) => rRights_any a r cap y W h)
  have HK5 := hid (fun W (h : RgtsAt W a r) => validateRights_any a r cap W h)
  have HK6 := hid (fun W (h : RgtsAt W a r) => rvalidateRights_any a r cap W h)
  have HK7 := hid (fun W A c (h : RgtsAt W A us) => Free_any A us c y z W h)
  rw [hF] at HK1 HK2
  rw [hU] at HK3 HK4
  rw [hG] at HK7
  have HE := hid hE
  generalize rightsE r = rE at *
  clear hr hF hU hG hE
  go_enter Try.func10, Try.ntmps10
  go_wp2_with fail
  generalize w.alloc (.cells #[.int .i64 x, .int .i64 y, .int .i64 z] 36) = W0 at *
  refine (HK1.out W0 (HR.out.below hB0)).mono ?_
  rintro e w1 ⟨q1, rfl⟩
  have p1 := hB0.trans (q1.mono hB0.size)
  have HA1 := hid (HA0.out.below q1)
  obtain ⟨x0, x1, x2⟩ := HA1.out
  go_wp2_with fail
  refine (HK2.out w1 (HR.out.below p1)).mono ?_
  rintro e w2 ⟨q2, rfl⟩
  have p2 := p1.trans (q2.mono p1.size)
  have HA2 := hid (HA1.out.below q2)
  obtain ⟨x0, x1, x2⟩ := HA2.out
  go_wp2_with fail
  refine (HK3.out w2 (HR.out.below p2)).mono ?_
  rintro e w3 ⟨q3, A3, c3, rfl, hA3⟩
  have p3 := p2.trans (q3.mono p2.size)
  have HA3 := hid (HA2.out.below q3)
  obtain ⟨x0, x1, x2⟩ := HA3.out
  have hul := hA3.len
  have HU3 := hid hA3
  clear hA3
  go_wp2_with fail
  refine (HK4.out w3 (HR.out.below p3)).mono ?_
  rintro e w4 ⟨q4, A4, c4, rfl, hA4⟩
  have p4 := p3.trans (q4.mono p3.size)
  have HA4 := hid (HA3.out.below q4)
  obtain ⟨x0, x1, x2⟩ := HA4.out
  have HU4 := hid (HU3.out.below q4)
  have HV4 := hid hA4
  clear hA4
  go_wp2_with fail
  refine (HK5.out w4 (HR.out.below p4)).mono ?_
  rintro e w5 ⟨q5, rfl⟩
  have p5 := p4.trans (q5.mono p4.size)
  go_wp2_with fail
  refine (HK6.out w5 (HR.out.below p5)).mono ?_
  rintro e w6 ⟨q6, rfl⟩
  have p6 := p5.trans (q6.mono p5.size)
  have HU6 := hid ((HU4.out.below q5).below q6)
  have HV6 := hid ((HV4.out.below q5).below q6)
  have HA6 := hid ((HA4.out.below q5).below q6)
  have HS := hid (sameRights_any A3 A4 us c3 c4 w6 HU6.out HV6.out)
  go_wp2_with fail
  refine HS.out.mono ?_
  rintro e w' ⟨n, rfl, rfl⟩
  have p7 := below_drewN p6 n
  have HU7 := hid (HU6.out.drew n)
  have HA7 := hid (HA6.out.below (below_drewN (Below.refl _ _) n))
  clear HS HU6 HV6 HA6 p6 q6
  generalize w6.drewN n = w7 at *
  obtain ⟨x0, x1, x2⟩ := HA7.out
  by_cases h1 : e1 = 0
  · obtain ⟨h3, hb⟩ := HE.out h1
    subst h1 h3 hb
    go_wp2_with fail
    refine (HK7.out w7 A3 c3 HU7.out).mono ?_
    rintro e w8 ⟨q8, rfl⟩
    have p8 := p7.trans (q8.mono p7.size)
    go_wp2_with fail
    refine (known5_any w8).mono ?_
    rintro e w9 ⟨q9, rfl⟩
    go_wp2
    go_ret
    exact ⟨p8.trans (q9.mono p8.size), rfl⟩
  · have h1' : (e1 != 0) = true := by simp [h1]
    clear h1
    go_wp2_with fail
    refine (known5_any w7).mono ?_
    rintro e w9 ⟨q9, rfl⟩
    go_wp2
    go_ret
    exact ⟨p7.trans (q9.mono p7.size), rfl⟩

set_option maxRecDepth 100000 in
set_option maxHeartbeats 1000000 in
theorem orderRights_long (a : Option Addr) (n cap : Nat) (x y z : Int) (w : World) (h0 : n ≤ 9223372036854775807) (h200 : 200 < n) :
  Calls Try.prog 10 #[.slice a n cap, .agg #[.int .i64 x, .int .i64 y, .int .i64 z]] w (BoolR w true) := by
  have hB0 := hid (below_new w (.cells #[.int .i64 x, .int .i64 y, .int .i64 z] 36))
  have hd2 : (200 : Int) < (n : Int) := by omega
  go_enter Try.func10, Try.ntmps10
  go_wp2_with fail
  refine (known5_any _).mono ?_
  rintro e w5 ⟨q5, rfl⟩
  go_wp2
  go_ret
  exact ⟨hB0.out.trans (q5.mono (by simp)), rfl⟩
theorem orderRights_walk (a : Option Addr) (r : List Rgt) (cap : Nat) (x y z : Int) (w : World) (h0 : r.length ≤ 9223372036854775807) (hr : r.length ≤ 140737488355328 → RgtsAt w a r) :
  Calls Try.prog 10 #[.slice a r.length cap, .agg #[.int .i64 x, .int .i64 y, .int .i64 z]] w (BoolR w true) := by
  by_cases h : 200 < r.length
  · exact orderRights_long a r.length cap x y z w h0 h
  · exact orderRights_main a r cap x y z w (hr (by omega)) (by omega) _ _ _ _ _ _ rfl rfl rfl (rights_law r y z)
end Go.Proofs.Ytkepjoociidkcaa
