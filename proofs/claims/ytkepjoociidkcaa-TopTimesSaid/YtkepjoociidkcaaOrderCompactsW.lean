/- The law OrderCompacts: its walk. -/
import Derived.Test.YtkepjoociidkcaaOrCmp
import Derived.Test.YtkepjoociidkcaaOrKidR
set_option linter.unusedVariables false
namespace Go.Proofs.Ytkepjoociidkcaa
open Go.RowKit

/-- By the compact table the same is known from the minute 0 on. -/
theorem cmp_known (l : List Fct) (at_ c d : Int) (h : validE l = 0) (h60 : ¬ 60 < (cmpTo l (cutL at_ l) 100).length) : knownL (cmpTo l (cutL at_ l) 100) 0 c d = knownL l at_ c d := by
  obtain ⟨_, hf, hs⟩ := validE_ok h
  have hc := cutL_le at_ l
  have hv := cmp_valid hf hc (by omega)
  have hE : askE (cmpTo l (cutL at_ l) 100) c d = askE l c d := by unfold askE chkE; rw [if_pos h, if_pos hv]
  unfold knownL
  rw [hE]
  by_cases h0 : askE l c d = 0
  · rw [if_pos h0, if_pos h0]
    obtain ⟨_, _, _, ⟨c0, c1⟩, d0, d1⟩ := askE_ok h0
    have e : c = ((c.toNat : Nat) : Int) := by omega
    rw [← refMeal_cut (validE_ok hv).2.2, e, cmp_meal l (cutL at_ l) c.toNat (by omega) d 0 d0 d1 (Int.le_refl _)]
  · rw [if_neg h0, if_neg h0]
theorem cmp_law (l : List Fct) (at_ c d : Int) : (cmpL l at_).2 = 0 → knownL (cmpL l at_).1 0 c d = knownL l at_ c d := by
  unfold cmpL
  by_cases h : validE l = 0
  · rw [if_pos h]
    by_cases h60 : 60 < (cmpTo l (cutL at_ l) 100).length
    · rw [if_pos h60]; intro e; cases e
    · rw [if_neg h60]; intro _; exact cmp_known l at_ c d h h60
  · rw [if_neg h]; intro e; exact absurd e h

set_option maxRecDepth 100000 in
set_option maxHeartbeats 4000000 in
theorem orderCompacts_main (a : Option Addr) (l : List Fct) (cap : Nat) (x y z : Int) (w : World) (hl : FactsAt w a l) (hcap : l.length ≤ cap) (h200 : l.length ≤ 200)
  (ms : List Fct) (e1 m1 f1 m2 f2 : Int) (hC : cmpL l x = (ms, e1)) (hK1 : knownL l x y z = (m1, f1)) (hK2 : knownL ms 0 y z = (m2, f2)) (hE : e1 = 0 → m2 = m1 ∧ f2 = f1) :
  Calls Try.prog 8 #[.slice a l.length cap, .agg #[.int .i64 x, .int .i64 y, .int .i64 z]] w (BoolR w true) := by
  have hlen := hl.len
  have HA := hid (askAt_new w x y z 36)
  have HL := hid hl
  have hB0 := hid (below_new w (.cells #[.int .i64 x, .int .i64 y, .int .i64 z] 36))
  have hd2 : decide ((200 : Int) < (l.length : Int)) = false := by simp; omega
  have HK3 := hid (fun W (h : FactsAt W a l) => Compact_any a l cap x W h hcap)
  have HK4 := hid (fun W (h : FactsAt W a l) => rCompact_any a l cap x W h)
  have HK5 := hid (fun W (h : FactsAt W a l) => Known_any a l cap x y z W h hcap)
  have HK6 := hid (fun W A c (h : FactsAt W A ms) (hc : ms.length ≤ c) => Known_any A ms c 0 y z W h hc)
  rw [hC] at HK3 HK4
  rw [hK1] at HK5
  rw [hK2] at HK6
  have HE := hid hE
  clear hl hC hK1 hK2 hE
  go_enter Try.func8, Try.ntmps8
  go_wp2_with fail
  refine (long5_any _ _ _ _ (by omega)).mono ?_
  rintro e w' ⟨rfl, rfl⟩
  generalize w.alloc (.cells #[.int .i64 x, .int .i64 y, .int .i64 z] 36) = W0 at *
  obtain ⟨x0, x1, x2⟩ := HA.out
  rw [hd2]
  go_wp2_with fail
  refine (HK3.out W0 (HL.out.below hB0.out)).mono ?_
  rintro e w3 ⟨q3, A3, c3, rfl, hcc, hA3⟩
  have p3 := hB0.out.trans (q3.mono hB0.out.size)
  have HB3 := hid (HA.out.below q3)
  clear x0 x1 x2
  obtain ⟨x0, x1, x2⟩ := HB3.out
  have HZ3 := hid hA3
  have hul := hA3.len
  clear hA3
  go_wp2_with fail
  refine (HK4.out w3 (HL.out.below p3)).mono ?_
  rintro e w4 ⟨q4, A4, c4, rfl, _, hA4⟩
  have p4 := p3.trans (q4.mono p3.size)
  have HB4 := hid (HB3.out.below q4)
  have HZ4 := hid (HZ3.out.below q4)
  have HS2 := hid (sameFacts_any A3 A4 ms c3 c4 w4 HZ4.out hA4)
  clear hA4 x0 x1 x2
  go_wp2_with fail
  refine HS2.out.mono ?_
  rintro e w' ⟨n2, rfl, rfl⟩
  have p5 := below_drewN p4 n2
  have HB5 := hid (HB4.out.below (below_drewN (Below.refl _ _) n2))
  have HZ5 := hid (HZ4.out.drew n2)
  clear HS2 HB4 HZ4
  generalize w4.drewN n2 = w5 at *
  obtain ⟨x0, x1, x2⟩ := HB5.out
  by_cases h2 : e1 = 0
  · obtain ⟨h3, h4⟩ := HE.out h2
    subst h2 h3 h4
    go_wp2_with fail
    refine (HK5.out w5 (HL.out.below p5)).mono ?_
    rintro e w6 ⟨q6, rfl⟩
    have p6 := p5.trans (q6.mono p5.size)
    clear x0 x1 x2
    obtain ⟨x0, x1, x2⟩ := HB5.out.below q6
    go_wp2_with fail
    refine (HK6.out w6 A3 c3 (HZ5.out.below q6) hcc).mono ?_
    rintro e w7 ⟨q7, rfl⟩
    have p7 := p6.trans (q7.mono p6.size)
    go_wp2_with fail
    refine (known5_any w7).mono ?_
    rintro e w8 ⟨q8, rfl⟩
    go_wp2
    go_ret
    exact ⟨p7.trans (q8.mono p7.size), rfl⟩
  · have h2' : (e1 != 0) = true := by simp [h2]
    clear h2
    go_wp2_with fail
    refine (known5_any w5).mono ?_
    rintro e w8 ⟨q8, rfl⟩
    go_wp2
    go_ret
    exact ⟨p5.trans (q8.mono p5.size), rfl⟩

set_option maxRecDepth 100000 in
set_option maxHeartbeats 1000000 in
theorem orderCompacts_long (a : Option Addr) (n cap : Nat) (x y z : Int) (w : World) (h0 : n ≤ 9223372036854775807) (h200 : 200 < n) :
  Calls Try.prog 8 #[.slice a n cap, .agg #[.int .i64 x, .int .i64 y, .int .i64 z]] w (BoolR w true) := by
  have hB0 := hid (below_new w (.cells #[.int .i64 x, .int .i64 y, .int .i64 z] 36))
  have hd2 : decide ((200 : Int) < (n : Int)) = true := by simp; omega
  go_enter Try.func8, Try.ntmps8
  go_wp2_with fail
  refine (long5_any _ _ _ _ h0).mono ?_
  rintro e w' ⟨rfl, rfl⟩
  rw [hd2]
  go_wp2_with fail
  refine (known5_any _).mono ?_
  rintro e w5 ⟨q5, rfl⟩
  go_wp2
  go_ret
  exact ⟨hB0.out.trans (q5.mono (by simp)), rfl⟩
theorem orderCompacts_walk (a : Option Addr) (l : List Fct) (cap : Nat) (x y z : Int) (w : World) (h0 : l.length ≤ 9223372036854775807) (hl : l.length ≤ 140737488355328 → FactsAt w a l) (hcap : l.length ≤ cap) :
  Calls Try.prog 8 #[.slice a l.length cap, .agg #[.int .i64 x, .int .i64 y, .int .i64 z]] w (BoolR w true) := by
  by_cases h : 200 < l.length
  · exact orderCompacts_long a l.length cap x y z w h0 h
  · exact orderCompacts_main a l cap x y z w (hl (by omega)) hcap (by omega) (cmpL l x).1 (cmpL l x).2 (knownL l x y z).1 (knownL l x y z).2 (knownL (cmpL l x).1 0 y z).1 (knownL (cmpL l x).1 0 y z).2 rfl rfl rfl (fun e => by have h9 := cmp_law l x y z e; exact ⟨congrArg Prod.fst h9, congrArg Prod.snd h9⟩)
end Go.Proofs.Ytkepjoociidkcaa
