/- The law ShareClaims: its walk. -/
import Derived.Test.YtegeojlmpjepjaaShT
set_option linter.unusedVariables false
namespace Go.Proofs.Ytegeojlmpjepjaa
open Go.RowKit

set_option maxRecDepth 100000 in
set_option maxHeartbeats 8000000 in
theorem shareClaims_walk (oa : Option Addr) (os : List Int) (oc : Nat) (ma : Option Addr) (ms : List Int) (mc : Nat) (K : Int) (w : World) (h1 : os.length ≤ 9223372036854775807) (h2 : ms.length ≤ 9223372036854775807) (hT : os.length ≤ 140737488355328 → Ints w oa os) (hU : ms.length ≤ 140737488355328 → Ints w ma ms) :
  Calls Try.prog 4 #[.slice oa os.length oc, .slice ma ms.length mc, .int .i64 K] w (BoolR w true) := by
  have HL := hid (fun w => long4_any oa os oc w h1)
  have HL2 := hid (fun w => long4_any ma ms mc w h2)
  cases hl : longI os with
  | true =>
    rw [hl] at HL
    clear hl hT hU
    go_enter Try.func4, Try.ntmps4
    go_wp2_with fail
    refine (HL.out _).mono ?_
    rintro e w' ⟨rfl, rfl⟩
    go_wp2_with fail
    refine (known4_any _).mono ?_
    rintro e w2 ⟨q2, rfl⟩
    go_wp2
    go_ret
    exact ⟨q2, rfl⟩
  | false =>
    rw [hl] at HL
    have hl60 : os.length ≤ 60 := by simpa [longI] using hl
    have ho := hT (by omega)
    clear hl hT
    cases hl2 : longI ms with
    | true =>
      rw [hl2] at HL2
      clear hl2 hU ho
      go_enter Try.func4, Try.ntmps4
      go_wp2_with fail
      refine (HL.out _).mono ?_
      rintro e w' ⟨rfl, rfl⟩
      go_wp2_with fail
      refine (HL2.out _).mono ?_
      rintro e w' ⟨rfl, rfl⟩
      go_wp2_with fail
      refine (known4_any _).mono ?_
      rintro e w2 ⟨q2, rfl⟩
      go_wp2
      go_ret
      exact ⟨q2, rfl⟩
    | false =>
      rw [hl2] at HL2
      have hm60 : ms.length ≤ 60 := by simpa [longI] using hl2
      have hm := hU (by omega)
      have HC := hid (fun (w' : World) (hb : Below w.heap.size w w') => Claimer_any oa ma os ms oc mc K w' (ho.below hb) (hm.below hb))
      have HCr := hid (fun (w' : World) (hb : Below w.heap.size w w') => rClaimer_any oa ma os ms oc mc K w' (ho.below hb) (hm.below hb))
      have HG := hid (fun (w' : World) (hb : Below w.heap.size w w') => Giver_any oa ma os ms oc mc K w' (ho.below hb) (hm.below hb))
      have HGr := hid (fun (w' : World) (hb : Below w.heap.size w w') => rGiver_any oa ma os ms oc mc K w' (ho.below hb) (hm.below hb))
      clear hl2 hU ho hm
      generalize claimerL os ms K = c at *
      generalize giverL os ms K = gv at *
      generalize err (goodV os ms K) = er at *
      obtain ⟨gi, gb⟩ := gv
      dsimp only at HG HGr
      have hc : (c == c) = true := by simp
      have he : (er == er) = true := by simp
      have hg : (gi == gi) = true := by simp
      have hb : (gb == gb) = true := by simp
      go_enter Try.func4, Try.ntmps4
      go_wp2_with fail
      refine (HL.out _).mono ?_
      rintro e w' ⟨rfl, rfl⟩
      go_wp2_with fail
      refine (HL2.out _).mono ?_
      rintro e w' ⟨rfl, rfl⟩
      go_wp2_with fail
      refine (HC.out _ (Below.refl _ _)).mono ?_
      rintro e w1 ⟨p1, rfl⟩
      go_wp2_with fail
      refine (HCr.out _ p1).mono ?_
      rintro e w2 ⟨q2, rfl⟩
      have p2 := p1.trans (q2.mono p1.size)
      go_wp2_with fail
      refine (HG.out _ p2).mono ?_
      rintro e w3 ⟨q3, rfl⟩
      have p3 := p2.trans (q3.mono p2.size)
      go_wp2_with fail
      refine (HGr.out _ p3).mono ?_
      rintro e w4 ⟨q4, rfl⟩
      have p4 := p3.trans (q4.mono p3.size)
      clear p1 q2 p2 q3 p3 q4
      go_wp2_with fail
      refine (known4_any _).mono ?_
      rintro e w6 ⟨q6, rfl⟩
      go_wp2
      go_ret
      exact ⟨p4.trans (q6.mono p4.size), rfl⟩
end Go.Proofs.Ytegeojlmpjepjaa
