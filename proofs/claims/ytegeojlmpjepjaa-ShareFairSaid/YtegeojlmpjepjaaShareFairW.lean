/- The law ShareFair: its walk. -/
import Derived.Test.YtegeojlmpjepjaaShT
import Derived.Test.YtegeojlmpjepjaaShSumM
import Derived.Test.YtegeojlmpjepjaaShSmall
set_option linter.unusedVariables false
namespace Go.Proofs.Ytegeojlmpjepjaa
open Go.RowKit

theorem fair_given {kind : Int} {os : List Int} (ho : okO os = true) (hk : okK kind = true) (n : Nat) (hn : n ≤ 1000) : fairL os (giveL kind os n).2 kind = true ∧ goodV os (giveL kind os n).2 kind = true := by
  have hm := giveL_ok kind os n hn
  have hv : goodV os (giveL kind os n).2 kind = true := by simp [goodV, ho, hm, hk]
  refine ⟨?_, hv⟩
  rw [fairL, hv, Bool.true_and]
  exact (fair_iff ho hm).2 fun i k hi hk' _ hp => rankL_size (by have := giveL_ordered (kind := kind) ho n hn i k hi hk' hp; omega)

set_option maxRecDepth 100000 in
set_option maxHeartbeats 8000000 in
theorem shareFair_walk (oa : Option Addr) (os : List Int) (oc : Nat) (ma : Option Addr) (ms : List Int) (mc : Nat) (N K : Int) (w : World) (h1 : os.length ≤ 9223372036854775807) (h2 : ms.length ≤ 9223372036854775807) (hT : os.length ≤ 140737488355328 → Ints w oa os) (hU : ms.length ≤ 140737488355328 → Ints w ma ms) :
  Calls Try.prog 6 #[.slice oa os.length oc, .slice ma ms.length mc, .agg #[.int .i64 N, .int .i64 K]] w (BoolR w true) := by
  have hB0 := (Below.refl w.heap.size w).alloc (Nat.le_refl _) (.cells #[.int .i64 N, .int .i64 K] 24)
  have HL := hid (fun w => long4_any oa os oc w h1)
  have HL2 := hid (fun w => long4_any ma ms mc w h2)
  cases hl : longI os with
  | true =>
    rw [hl] at HL
    clear hl hT hU
    go_enter Try.func6, Try.ntmps6
    go_wp2_with fail
    refine (HL.out _).mono ?_
    rintro e w' ⟨rfl, rfl⟩
    go_wp2_with fail
    refine (known4_any _).mono ?_
    rintro e w2 ⟨q2, rfl⟩
    go_wp2
    go_ret
    exact ⟨hB0.trans (q2.mono (by simp)), rfl⟩
  | false =>
    rw [hl] at HL
    have hl60 : os.length ≤ 60 := by simpa [longI] using hl
    have ho := hT (by omega)
    clear hl hT
    cases hl2 : longI ms with
    | true =>
      rw [hl2] at HL2
      clear hl2 hU ho
      go_enter Try.func6, Try.ntmps6
      go_wp2_with fail
      refine (HL.out _).mono ?_
      rintro e w' ⟨rfl, rfl⟩
      go_wp2_with fail
      refine (HL2.out _).mono ?_
      rintro e w' ⟨rfl, rfl⟩
      go_wp2_with fail
      refine (known4_any _).mono ?_
      rintro e w2 ⟨q2, rfl⟩
      go_wp2
      go_ret
      exact ⟨hB0.trans (q2.mono (by simp)), rfl⟩
    | false =>
      rw [hl2] at HL2
      have hm60 : ms.length ≤ 60 := by simpa [longI] using hl2
      have hm := hU (by omega)
      obtain ⟨dv, dl⟩ := divL_vals os N K
      have HF := hid (fun (w' : World) (hb : Below w.heap.size w w') => isFair_any oa ma os ms oc mc K w' (ho.below hb) (hm.below hb))
      have HFr := hid (fun (w' : World) (hb : Below w.heap.size w w') => rIsFair_any oa ma os ms oc mc K w' (ho.below hb) (hm.below hb))
      have HD := hid (fun (w' : World) (hb : Below w.heap.size w w') => divide_any oa os oc N K w' (ho.below hb))
      have HF2 := hid (fun (A : Option Addr) (a : Nat) (w' : World) (hb : Below w.heap.size w w') (hi : Ints w' A (divL os N K)) => isFair_any oa A os (divL os N K) oc a K w' (ho.below hb) hi)
      have HX := hid (show divE os N K = true → fairL os (divL os N K) K = true ∧ goodV os (divL os N K) K = true from fun h => by
        obtain ⟨g1, g2, m, rfl, hm'⟩ := divE_ok h
        rw [divL, if_pos h, Int.toNat_natCast]
        exact fair_given g1 g2 m hm')
      have HDv := hid dv
      clear hl2 hU ho hm dv
      generalize fairL os ms K = fr at *
      generalize err (goodV os ms K) = er at *
      generalize divE os N K = ok at *
      generalize divL os N K = ds at *
      have hf : (fr != fr) = false := by simp
      have he : (er != er) = false := by simp
      have c0 : (w.alloc (.cells #[.int .i64 N, .int .i64 K] 24)).cell? ⟨w.heap.size, 0, none⟩ = some (.int .i64 N) := by go_simp
      have c1 : (w.alloc (.cells #[.int .i64 N, .int .i64 K] 24)).cell? ⟨w.heap.size, 1, none⟩ = some (.int .i64 K) := by go_simp
      go_enter Try.func6, Try.ntmps6
      go_wp2_with fail
      refine (HL.out _).mono ?_
      rintro e w' ⟨rfl, rfl⟩
      go_wp2_with fail
      refine (HL2.out _).mono ?_
      rintro e w' ⟨rfl, rfl⟩
      go_wp2_with fail
      refine (HF.out _ hB0).mono ?_
      rintro e w1 ⟨q1, rfl⟩
      have p1 := hB0.trans (q1.mono (by simp))
      rw [← q1.cell (by simp)] at c0 c1
      clear q1
      go_wp2_with fail
      refine (HFr.out _ p1).mono ?_
      rintro e w2 ⟨q2, rfl⟩
      have p2 := p1.trans (q2.mono p1.size)
      rw [← q2.cell (cell_lt c0)] at c0
      rw [← q2.cell (cell_lt c1)] at c1
      clear q2
      go_wp2_with fail
      refine (HD.out _ p2).mono ?_
      rintro e w3 ⟨q3, A, a, rfl, o3⟩
      have p3 := p2.trans (q3.mono p2.size)
      rw [← q3.cell (cell_lt c1)] at c1
      obtain ⟨_, _, hv, i3⟩ := o3.ints (by omega) (small_i64 HDv.out (by omega) (by omega))
      cases hv
      clear q3 o3 c0 p1 p2 HF HFr HD
      rcases Bool.eq_false_or_eq_true ok with hk | hk
      · obtain ⟨x1, x2⟩ := HX.out hk
        rw [hk, show err true = 0 from rfl]
        rw [x1, x2] at HF2
        clear x1 x2 hk
        go_wp2_with fail
        refine (HF2.out _ _ _ p3 i3).mono ?_
        rintro e w4 ⟨q4, rfl⟩
        have p4 := p3.trans (q4.mono p3.size)
        rw [show err true = 0 from rfl]
        clear q4 p3
        go_wp2_with fail
        refine (known4_any _).mono ?_
        rintro e w6 ⟨q6, rfl⟩
        go_wp2
        go_ret
        exact ⟨p4.trans (q6.mono p4.size), rfl⟩
      · have hne : (err ok != 0) = true := by rw [hk]; rfl
        generalize err ok = eo at *
        clear hk HX HF2
        go_wp2_with fail
        refine (known4_any _).mono ?_
        rintro e w6 ⟨q6, rfl⟩
        go_wp2
        go_ret
        exact ⟨p3.trans (q6.mono p3.size), rfl⟩
end Go.Proofs.Ytegeojlmpjepjaa
