/- The law ShareQuotas: its walk. -/
import Derived.Test.YtegeojlmpjepjaaShU
set_option linter.unusedVariables false
namespace Go.Proofs.Ytegeojlmpjepjaa
open Go.RowKit

set_option maxRecDepth 100000 in
set_option maxHeartbeats 4000000 in
theorem shareQuotas_walk (oa : Option Addr) (os : List Int) (oc : Nat) (n s : Int) (w : World) (h1 : os.length ≤ 9223372036854775807) (hT : os.length ≤ 140737488355328 → Ints w oa os) :
  Calls Try.prog 10 #[.slice oa os.length oc, .int .i64 n, .int .i64 s] w (BoolR w true) := by
  have HL := hid (fun w => long4_any oa os oc w h1)
  cases hl : longI os with
  | true =>
    rw [hl] at HL
    clear hl hT
    go_enter Try.func10, Try.ntmps10
    go_wp2_with fail
    refine (HL.out _).mono ?_
    rintro e w' ⟨rfl, rfl⟩
    go_wp2_with fail
    refine (known4_any _).mono ?_
    rintro e w2 ⟨q2, rfl⟩
    go_wp2
    go_ret
    exact ⟨q2, rfl⟩
  | false =>
    rw [hl] at HL
    have hl60 : os.length ≤ 60 := by simpa [longI] using hl
    have ho := hT (by omega)
    have HQ := hid (fun (w' : World) (hb : Below w.heap.size w w') => quota_any oa os oc n s w' (ho.below hb))
    have HR := hid (fun (w' : World) (hb : Below w.heap.size w w') => rquota_any oa os oc n s w' (ho.below hb))
    clear hl hT ho
    generalize quoL os n s = q at *
    generalize quoE os n s = er at *
    obtain ⟨q1, q2⟩ := q
    unfold RatE at HQ HR
    dsimp only at HQ HR
    have he : (er == er) = true := by simp
    have hq1 : (q1 == q1) = true := by simp
    have hq2 : (q2 == q2) = true := by simp
    go_enter Try.func10, Try.ntmps10
    go_wp2_with fail
    refine (HL.out _).mono ?_
    rintro e w' ⟨rfl, rfl⟩
    go_wp2_with fail
    refine (HQ.out _ (Below.refl _ _)).mono ?_
    rintro e w1 ⟨p1, rfl⟩
    have p1' := p1.alloc p1.size (.cells #[.int .i64 q1, .int .i64 q2] 43)
    have a0 : (w1.alloc (.cells #[.int .i64 q1, .int .i64 q2] 43)).cell? ⟨w1.heap.size, 0, none⟩ = some (.int .i64 q1) := by go_simp
    have a1 : (w1.alloc (.cells #[.int .i64 q1, .int .i64 q2] 43)).cell? ⟨w1.heap.size, 1, none⟩ = some (.int .i64 q2) := by go_simp
    go_wp2_with fail
    refine (HR.out _ p1').mono ?_
    rintro e w2 ⟨z2, rfl⟩
    have p2 := p1'.trans (z2.mono p1'.size)
    rw [← z2.cell (by simp)] at a0 a1
    have p2' := p2.alloc p2.size (.cells #[.int .i64 q1, .int .i64 q2] 43)
    have hw1 := cell_lt a0
    clear z2 p1 p1'
    go_wp2_with fail
    refine (known4_any _).mono ?_
    rintro e w6 ⟨q6, rfl⟩
    go_wp2
    go_ret
    exact ⟨p2'.trans (q6.mono p2'.size), rfl⟩
end Go.Proofs.Ytegeojlmpjepjaa
