/- The law ShareDivisors: its walk. -/
import Derived.Test.YtegeojlmpjepjaaShHas
set_option linter.unusedVariables false
namespace Go.Proofs.Ytegeojlmpjepjaa
open Go.RowKit

set_option maxRecDepth 100000 in
set_option maxHeartbeats 8000000 in
theorem shareDivisors_walk (oa : Option Addr) (os : List Int) (oc : Nat) (ma : Option Addr) (ms : List Int) (mc : Nat) (K : Int) (w : World) (h1 : os.length ≤ 9223372036854775807) (h2 : ms.length ≤ 9223372036854775807) (hT : os.length ≤ 140737488355328 → Ints w oa os) (hU : ms.length ≤ 140737488355328 → Ints w ma ms) :
  Calls Try.prog 8 #[.slice oa os.length oc, .slice ma ms.length mc, .int .i64 K] w (BoolR w true) := by
  have HL := hid (fun w => long4_any oa os oc w h1)
  have HL2 := hid (fun w => long4_any ma ms mc w h2)
  cases hl : longI os with
  | true =>
    rw [hl] at HL
    clear hl hT hU
    go_enter Try.func8, Try.ntmps8
    go_wp2_with fail
    refine (HL.out _).mono ?_
    rintro e w' ⟨rfl, rfl⟩
    go_wp2_with fail
    refine (known4_any _).mono ?_
    rintro e w2 ⟨q2, rfl⟩
    go_wp2
    go_ret
    exact ⟨q2, rfl⟩
  | false =>
    rw [hl] at HL
    have hl60 : os.length ≤ 60 := by simpa [longI] using hl
    have ho := hT (by omega)
    clear hl hT
    cases hl2 : longI ms with
    | true =>
      rw [hl2] at HL2
      clear hl2 hU ho
      go_enter Try.func8, Try.ntmps8
      go_wp2_with fail
      refine (HL.out _).mono ?_
      rintro e w' ⟨rfl, rfl⟩
      go_wp2_with fail
      refine (HL2.out _).mono ?_
      rintro e w' ⟨rfl, rfl⟩
      go_wp2_with fail
      refine (known4_any _).mono ?_
      rintro e w2 ⟨q2, rfl⟩
      go_wp2
      go_ret
      exact ⟨q2, rfl⟩
    | false =>
      rw [hl2] at HL2
      have hm60 : ms.length ≤ 60 := by simpa [longI] using hl2
      have hm := hU (by omega)
      have HDi := hid (fun (w' : World) (hb : Below w.heap.size w w') => divisor_any oa ma os ms oc mc K w' (ho.below hb) (hm.below hb))
      have HH := hid (fun (w' : World) (hb : Below w.heap.size w w') => rhas_any oa ma os ms oc mc K w' (ho.below hb) (hm.below hb))
      have HCk := hid (fun (w' : World) (hb : Below w.heap.size w w') => rcheck4_any oa ma os ms oc mc K (divsL os ms K).1 (divsL os ms K).2 w' (ho.below hb) (hm.below hb))
      have HT := hid (fun h => check_top (os := os) (ms := ms) (kind := K) h)
      have HZ := hid (show hasDiv os ms K = false → divsL os ms K = (0, 0) from fun h => by rw [divsL, h]; rfl)
      clear hl2 hU ho hm
      generalize checkE os ms K (divsL os ms K).1 (divsL os ms K).2 = ck at *
      generalize divsL os ms K = dv at *
      generalize hasDiv os ms K = hv at *
      generalize err (goodV os ms K) = er at *
      have he : (er != er) = false := by simp
      obtain ⟨d1, d2⟩ := dv
      unfold DivR at HDi
      dsimp only at HDi HCk
      go_enter Try.func8, Try.ntmps8
      go_wp2_with fail
      refine (HL.out _).mono ?_
      rintro e w' ⟨rfl, rfl⟩
      go_wp2_with fail
      refine (HL2.out _).mono ?_
      rintro e w' ⟨rfl, rfl⟩
      go_wp2_with fail
      refine (HDi.out _ (Below.refl _ _)).mono ?_
      rintro e w1 ⟨p1, rfl⟩
      have p1' := p1.alloc p1.size (.cells #[.int .i64 d1, .int .i64 d2] 43)
      have a0 : (w1.alloc (.cells #[.int .i64 d1, .int .i64 d2] 43)).cell? ⟨w1.heap.size, 0, none⟩ = some (.int .i64 d1) := by go_simp
      have a1 : (w1.alloc (.cells #[.int .i64 d1, .int .i64 d2] 43)).cell? ⟨w1.heap.size, 1, none⟩ = some (.int .i64 d2) := by go_simp
      go_wp2_with fail
      refine (HH.out _ p1').mono ?_
      rintro e w2 ⟨z2, rfl⟩
      have p2 := p1'.trans (z2.mono p1'.size)
      rw [← z2.cell (by simp)] at a0 a1
      clear z2 p1 p1' HDi HH
      cases hv
      · have hz := HZ.out rfl
        simp only [Prod.mk.injEq] at hz
        obtain ⟨rfl, rfl⟩ := hz
        clear HZ HT HCk
        go_wp2_with fail
        refine (known4_any _).mono ?_
        rintro e w6 ⟨q6, rfl⟩
        go_wp2
        go_ret
        exact ⟨p2.trans (q6.mono p2.size), rfl⟩
      · have hck := HT.out rfl
        subst hck
        clear HZ HT
        go_wp2_with fail
        refine (HCk.out _ p2).mono ?_
        rintro e w3 ⟨z3, rfl⟩
        have p3 := p2.trans (z3.mono p2.size)
        go_wp2_with fail
        refine (known4_any _).mono ?_
        rintro e w6 ⟨q6, rfl⟩
        go_wp2
        go_ret
        exact ⟨p3.trans (q6.mono p3.size), rfl⟩
end Go.Proofs.Ytegeojlmpjepjaa
