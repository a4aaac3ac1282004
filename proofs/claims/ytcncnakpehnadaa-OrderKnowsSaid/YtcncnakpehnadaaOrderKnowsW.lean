/- The law OrderKnows: its walk. -/
import Derived.Test.YtcncnakpehnadaaOrL
import Derived.Test.YtcncnakpehnadaaOrN
set_option linter.unusedVariables false
namespace Go.Proofs.Ytcncnakpehnadaa
open Go.RowKit

set_option maxRecDepth 100000 in
set_option maxHeartbeats 4000000 in
theorem orderKnows_main (a : Option Addr) (l : List Fct) (cap : Nat) (at_ c d : Int) (w : World) (hl : FactsAt w a l) (hcap : l.length ≤ cap) (h200 : l.length ≤ 200) (k1 e0 : Int) (u : Nat) (b : Bool)
  (hK : knownL l at_ c d = (k1, e0)) (hR : reasonL l at_ c d = ((u : Int), b, e0)) (hu : b = true → u < l.length ∧ (fAt l u).m = k1) :
  Calls Try.prog 4 #[.slice a l.length cap, .agg #[.int .i64 at_, .int .i64 c, .int .i64 d]] w (BoolR w true) := by
  have hlen := hl.len
  have HA := hid (askAt_new w at_ c d 36)
  have HL := hid hl
  have hB0 := hid (below_new w (.cells #[.int .i64 at_, .int .i64 c, .int .i64 d] 36))
  have hd : ¬ (200 : Int) < (l.length : Int) := by omega
  have hd2 : decide ((200 : Int) < (l.length : Int)) = false := by simpa using hd
  have hu2 : b = true → (u : Int) < (l.length : Int) := fun h => by have := (hu h).1; omega
  have HU := hid hu
  have HU2 := hid hu2
  have HKe := hid hK
  have HRe := hid hR
  clear hl hu hu2 hK hR
  go_enter Try.func4, Try.ntmps4
  go_wp2_with fail
  refine (long5_any _ _ _ _ (by omega)).mono ?_
  rintro e w' ⟨rfl, rfl⟩
  generalize w.alloc (.cells #[.int .i64 at_, .int .i64 c, .int .i64 d] 36) = W0 at *
  obtain ⟨x0, x1, x2⟩ := HA.out
  rw [hd2]
  go_wp2_with fail
  refine (Known_any a l cap at_ c d W0 (HL.out.below hB0.out) hcap).mono ?_
  rw [HKe.out]
  rintro e w1 ⟨q1, rfl⟩
  have p1 := hB0.out.trans (q1.mono hB0.out.size)
  obtain ⟨x0, x1, x2⟩ := HA.out.below q1
  go_wp2_with fail
  refine (rKnown_any a l cap at_ c d w1 (HL.out.below p1)).mono ?_
  rw [HKe.out]
  rintro e w2 ⟨q2, rfl⟩
  have p2 := p1.trans (q2.mono p1.size)
  obtain ⟨x0, x1, x2⟩ := (HA.out.below q1).below q2
  go_wp2_with fail
  refine (Reason_any a l cap at_ c d w2 (HL.out.below p2) hcap).mono ?_
  rw [HRe.out]
  rintro e w3 ⟨q3, rfl⟩
  have p3 := p2.trans (q3.mono p2.size)
  obtain ⟨x0, x1, x2⟩ := ((HA.out.below q1).below q2).below q3
  go_wp2_with fail
  refine (rReason_any a l cap at_ c d w3 (HL.out.below p3)).mono ?_
  rw [HRe.out]
  rintro e w4 ⟨q4, rfl⟩
  have p4 := p3.trans (q4.mono p3.size)
  cases b with
  | false =>
    go_wp2_with fail
    refine (known5_any w4).mono ?_
    rintro e w5 ⟨q5, rfl⟩
    go_wp2
    go_ret
    exact ⟨p4.trans (q5.mono p4.size), rfl⟩
  | true =>
    have hu1 := HU2.out rfl
    have hu3 := (HU.out rfl).1
    rcases (HL.out.below p4).at_ with e | ⟨p, o, rfl, hc⟩
    · rw [e] at hu3; simp at hu3
    obtain ⟨_, _, _, _, c4⟩ := hc u hu3
    rw [(HU.out rfl).2] at c4
    have u0 : (0 : Int) ≤ (u : Int) := by omega
    clear hc
    go_wp2_with fail
    refine (known5_any w4).mono ?_
    rintro e w5 ⟨q5, rfl⟩
    go_wp2
    go_ret
    exact ⟨p4.trans (q5.mono p4.size), rfl⟩

set_option maxRecDepth 100000 in
set_option maxHeartbeats 1000000 in
theorem orderKnows_long (a : Option Addr) (n cap : Nat) (at_ c d : Int) (w : World) (h0 : n ≤ 9223372036854775807) (h200 : 200 < n) :
  Calls Try.prog 4 #[.slice a n cap, .agg #[.int .i64 at_, .int .i64 c, .int .i64 d]] w (BoolR w true) := by
  have hB0 := hid (below_new w (.cells #[.int .i64 at_, .int .i64 c, .int .i64 d] 36))
  have hd2 : decide ((200 : Int) < (n : Int)) = true := by simp; omega
  go_enter Try.func4, Try.ntmps4
  go_wp2_with fail
  refine (long5_any _ _ _ _ h0).mono ?_
  rintro e w' ⟨rfl, rfl⟩
  rw [hd2]
  go_wp2_with fail
  refine (known5_any _).mono ?_
  rintro e w5 ⟨q5, rfl⟩
  go_wp2
  go_ret
  exact ⟨hB0.out.trans (q5.mono (by simp)), rfl⟩

theorem orderKnows_walk (a : Option Addr) (l : List Fct) (cap : Nat) (at_ c d : Int) (w : World) (h0 : l.length ≤ 9223372036854775807) (hl : l.length ≤ 140737488355328 → FactsAt w a l) (hcap : l.length ≤ cap) :
  Calls Try.prog 4 #[.slice a l.length cap, .agg #[.int .i64 at_, .int .i64 c, .int .i64 d]] w (BoolR w true) := by
  by_cases h : 200 < l.length
  · exact orderKnows_long a l.length cap at_ c d w h0 h
  · by_cases hE : askE l c d = 0
    · cases hk : whyTo l c d (cutL at_ l) with
      | none =>
        exact orderKnows_main a l cap at_ c d w (hl (by omega)) hcap (by omega) 0 0 0 false (by unfold knownL mealK; rw [if_pos hE, hk]) (by unfold reasonL; rw [if_pos hE, hk]; rfl) (fun h => by cases h)
      | some i =>
        exact orderKnows_main a l cap at_ c d w (hl (by omega)) hcap (by omega) (fAt l i).m 0 i true (by unfold knownL mealK; rw [if_pos hE, hk]) (by unfold reasonL; rw [if_pos hE, hk]) (fun _ => ⟨by have := (whyTo_lt hk).1; have := cutL_le at_ l; omega, rfl⟩)
    · exact orderKnows_main a l cap at_ c d w (hl (by omega)) hcap (by omega) 0 (askE l c d) 0 false (by unfold knownL; rw [if_neg hE]) (by unfold reasonL; rw [if_neg hE]; rfl) (fun h => by cases h)
end Go.Proofs.Ytcncnakpehnadaa
