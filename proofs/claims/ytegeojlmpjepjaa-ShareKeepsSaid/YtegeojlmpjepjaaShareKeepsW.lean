/- The law ShareKeeps: its walk. -/
import Derived.Test.YtegeojlmpjepjaaShV
set_option linter.unusedVariables false
namespace Go.Proofs.Ytegeojlmpjepjaa
open Go.RowKit

set_option maxRecDepth 100000 in
set_option maxHeartbeats 8000000 in
theorem shareKeeps_walk (oa : Option Addr) (os : List Int) (oc : Nat) (ma : Option Addr) (ms : List Int) (mc : Nat) (w : World) (h1 : os.length ≤ 9223372036854775807) (h2 : ms.length ≤ 9223372036854775807) (hT : os.length ≤ 140737488355328 → Ints w oa os) (hU : ms.length ≤ 140737488355328 → Ints w ma ms) :
  Calls Try.prog 12 #[.slice oa os.length oc, .slice ma ms.length mc] w (BoolR w true) := by
  have HL := hid (fun w => long4_any oa os oc w h1)
  have HL2 := hid (fun w => long4_any ma ms mc w h2)
  cases hl : longI os with
  | true =>
    rw [hl] at HL
    clear hl hT hU
    go_enter Try.func12, Try.ntmps12
    go_wp2_with fail
    refine (HL.out _).mono ?_
    rintro e w' ⟨rfl, rfl⟩
    go_wp2_with fail
    refine (known4_any _).mono ?_
    rintro e w2 ⟨q2, rfl⟩
    go_wp2
    go_ret
    exact ⟨q2, rfl⟩
  | false =>
    rw [hl] at HL
    have hl60 : os.length ≤ 60 := by simpa [longI] using hl
    have ho := hT (by omega)
    clear hl hT
    cases hl2 : longI ms with
    | true =>
      rw [hl2] at HL2
      clear hl2 hU ho
      go_enter Try.func12, Try.ntmps12
      go_wp2_with fail
      refine (HL.out _).mono ?_
      rintro e w' ⟨rfl, rfl⟩
      go_wp2_with fail
      refine (HL2.out _).mono ?_
      rintro e w' ⟨rfl, rfl⟩
      go_wp2_with fail
      refine (known4_any _).mono ?_
      rintro e w2 ⟨q2, rfl⟩
      go_wp2
      go_ret
      exact ⟨q2, rfl⟩
    | false =>
      rw [hl2] at HL2
      have hm60 : ms.length ≤ 60 := by simpa [longI] using hl2
      have hm := hU (by omega)
      have HK := hid (fun (w' : World) (hb : Below w.heap.size w w') => keeps_any oa ma os ms oc mc w' (ho.below hb) (hm.below hb))
      have HKr := hid (fun (w' : World) (hb : Below w.heap.size w w') => rkeeps_any oa ma os ms oc mc w' (ho.below hb) (hm.below hb))
      clear hl2 hU ho hm
      generalize keepsL os ms = kp at *
      generalize err (okP os ms) = er at *
      have hc : (kp == kp) = true := by simp
      have he : (er == er) = true := by simp
      go_enter Try.func12, Try.ntmps12
      go_wp2_with fail
      refine (HL.out _).mono ?_
      rintro e w' ⟨rfl, rfl⟩
      go_wp2_with fail
      refine (HL2.out _).mono ?_
      rintro e w' ⟨rfl, rfl⟩
      go_wp2_with fail
      refine (HK.out _ (Below.refl _ _)).mono ?_
      rintro e w1 ⟨p1, rfl⟩
      go_wp2_with fail
      refine (HKr.out _ p1).mono ?_
      rintro e w2 ⟨q2, rfl⟩
      have p2 := p1.trans (q2.mono p1.size)
      go_wp2_with fail
      refine (known4_any _).mono ?_
      rintro e w6 ⟨q6, rfl⟩
      go_wp2
      go_ret
      exact ⟨p2.trans (q6.mono p2.size), rfl⟩
end Go.Proofs.Ytegeojlmpjepjaa
