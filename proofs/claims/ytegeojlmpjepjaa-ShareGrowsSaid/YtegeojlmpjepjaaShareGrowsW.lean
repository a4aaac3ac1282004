/- The law ShareGrows: its walk. -/
import Derived.Test.YtegeojlmpjepjaaShS
import Derived.Test.YtegeojlmpjepjaaShSumM
import Derived.Test.YtegeojlmpjepjaaShGrowM
import Derived.Test.YtegeojlmpjepjaaShareDividesW
set_option linter.unusedVariables false
namespace Go.Proofs.Ytegeojlmpjepjaa
open Go.RowKit

set_option maxRecDepth 100000 in
set_option maxHeartbeats 8000000 in
theorem grows_ok (oa : Option Addr) (os : List Int) (oc n : Nat) (K : Int) (w : World) (ho : Ints w oa os) (hl : longI os = false) (hn : n < 1000) (hk : divE os (n : Int) K = true) :
  Calls Try.prog 5 #[.slice oa os.length oc, .agg #[.int .i64 (n : Int), .int .i64 K]] w (BoolR w true) := by
  have hB0 := (Below.refl w.heap.size w).alloc (Nat.le_refl _) (.cells #[.int .i64 (n : Int), .int .i64 K] 24)
  have HL := hid (fun w => long4_any oa os oc w (by have := ho.len; omega))
  rw [hl] at HL
  obtain ⟨g1, g2, _⟩ := divE_ok hk
  have hk2 : divE os ((n : Int) + 1) K = true := by rw [divE_succ (by omega) (by omega)]; exact hk
  have hk2' : divE os ((n + 1 : Nat) : Int) K = true := by push_cast; exact hk2
  have e1 : divL os (n : Int) K = (giveL K os n).2 := by rw [divL, hk]; rfl
  have e2 : divL os ((n : Int) + 1) K = (giveL K os (n + 1)).2 := by rw [divL, hk2, show ((n : Int) + 1).toNat = n + 1 by omega]; rfl
  have HD := hid (fun (w' : World) (hb : Below w.heap.size w w') => divide_any oa os oc (n : Int) K w' (ho.below hb))
  have HE := hid (fun (w' : World) (hb : Below w.heap.size w w') => divide_any oa os oc ((n : Int) + 1) K w' (ho.below hb))
  rw [e1, hk] at HD
  rw [e2, hk2] at HE
  have ka := giveL_ok K os n (by omega)
  have kb := giveL_ok K os (n + 1) (by omega)
  have va := giveL_vals K os n (by omega)
  have vb := giveL_vals K os (n + 1) (by omega)
  have la := giveL_len2 K os n
  have lb := giveL_len2 K os (n + 1)
  have h8 := okO_len g1
  have hc := bestL_lt (kind := K) (ms := (giveL K os n).2) h8.1
  have hs : ∀ k, at0 (giveL K os (n + 1)).2 k = if k = bestL K os (giveL K os n).2 then at0 (giveL K os n).2 (bestL K os (giveL K os n).2) + 1 else at0 (giveL K os n).2 k := fun k => by
    rw [show (giveL K os (n + 1)).2 = (giveL K os n).2.set (bestL K os (giveL K os n).2) (at0 (giveL K os n).2 (bestL K os (giveL K os n).2) + 1) from rfl, at0_set _ _ _ _ (by omega)]
  obtain ⟨gne, gb⟩ := giver_best (kind := K) g1 n hn
  have gva : goodV os (giveL K os n).2 K = true := by simp [goodV, g1, g2, ka]
  have gvb : goodV os (giveL K os (n + 1)).2 K = true := by simp [goodV, g1, g2, kb]
  have cl : claimerL os (giveL K os n).2 K = (bestL K os (giveL K os n).2 : Int) := by rw [claimerL, gva]; rfl
  have gv : giverL os (giveL K os (n + 1)).2 K = ((bestL K os (giveL K os n).2 : Int), true) := by rw [giverL, gvb, if_pos rfl, if_neg gne, gb]
  have HC := hid (fun (A : Option Addr) (a : Nat) (w' : World) (hb : Below w.heap.size w w') (hm : Ints w' A (giveL K os n).2) => Claimer_any oa A os (giveL K os n).2 oc a K w' (ho.below hb) hm)
  have HG := hid (fun (A : Option Addr) (a : Nat) (w' : World) (hb : Below w.heap.size w w') (hm : Ints w' A (giveL K os (n + 1)).2) => Giver_any oa A os (giveL K os (n + 1)).2 oc a K w' (ho.below hb) hm)
  rw [cl, gva] at HC
  rw [gv, gvb] at HG
  simp only [show err true = 0 from rfl] at HD HE HC HG
  generalize bestL K os (giveL K os n).2 = c at *
  generalize (giveL K os (n + 1)).2 = b at *
  generalize (giveL K os n).2 = a at *
  have hlen8 : a.length ≤ 8 := by omega
  have hca : c < a.length := by omega
  have hab1 : a.length ≤ b.length := by omega
  have hab2 : b.length ≤ a.length := by omega
  have hbe : ((a.length : Int) != (b.length : Int)) = false := by simp; omega
  have HS := hid hs
  have HVa := hid va
  have HVb := hid vb
  clear e1 e2 hk hk2 hk2' ka kb la lb hs gne gb gva gvb cl gv g1 g2 hl ho va vb
  have c0 : (w.alloc (.cells #[.int .i64 (n : Int), .int .i64 K] 24)).cell? ⟨w.heap.size, 0, none⟩ = some (.int .i64 (n : Int)) := by go_simp
  have c1 : (w.alloc (.cells #[.int .i64 (n : Int), .int .i64 K] 24)).cell? ⟨w.heap.size, 1, none⟩ = some (.int .i64 K) := by go_simp
  go_enter Try.func5, Try.ntmps5
  go_wp2_with fail
  refine (HL.out _).mono ?_
  rintro e w' ⟨rfl, rfl⟩
  go_wp2_with fail
  refine (HD.out _ hB0).mono ?_
  rintro e w1 ⟨q1, A1, a1, rfl, o1⟩
  have p1 := hB0.trans (q1.mono (by simp))
  rw [← q1.cell (by simp)] at c0 c1
  obtain ⟨_, _, hv, i1⟩ := o1.ints (by omega) (small_i64 HVa.out (by omega) (by omega))
  cases hv
  clear o1 q1
  go_wp2_with fail
  refine (HE.out _ p1).mono ?_
  rintro e w2 ⟨q2, A2, a2, rfl, o2⟩
  have p2 := p1.trans (q2.mono p1.size)
  rw [← q2.cell (cell_lt c0)] at c0
  rw [← q2.cell (cell_lt c1)] at c1
  have i1 := i1.below q2
  obtain ⟨_, _, hv, i2⟩ := o2.ints (by omega) (small_i64 HVb.out (by omega) (by omega))
  cases hv
  clear o2 q2
  go_wp2_with fail
  refine (HC.out _ _ _ p2 i1).mono ?_
  rintro e w3 ⟨q3, rfl⟩
  have p3 := p2.trans (q3.mono p2.size)
  rw [← q3.cell (cell_lt c0)] at c0
  rw [← q3.cell (cell_lt c1)] at c1
  have i1 := i1.below q3
  have i2 := i2.below q3
  clear q3
  go_wp2_with fail
  refine (HG.out _ _ _ p3 i2).mono ?_
  rintro e w4 ⟨q4, rfl⟩
  have p4 := p3.trans (q4.mono p3.size)
  have i1 := i1.below q4
  have i2 := i2.below q4
  clear q4 p1 p2 p3 HD HE HC HG c0 c1
  have HI1 := hid i1
  have HI2 := hid i2
  clear i1 i2
  have hcI : (c : Int) < (a.length : Int) := by omega
  have hcc : ((c : Int) != (c : Int)) = false := by simp
  go_wp2
  go_loopw [14] (fun i wr => ∃ j : Nat, j ≤ a.length ∧ i = .int .i64 (j : Int) ∧ Hid (∃ m, wr = w4.drewN m)) (fun i _ => a.length - (intOf i).toNat)
  case atStart => exact ⟨0, Nat.zero_le _, rfl, ⟨0, rfl⟩⟩
  case round =>
    obtain ⟨j, hj, rfl, HW⟩ := hrel
    by_cases hlt : j < a.length
    · rcases HI1.out.at_ with e | ⟨ba, oa', rfl, hca'⟩
      · rw [e] at hlt; simp at hlt
      rcases HI2.out.at_ with e | ⟨bb, ob', rfl, hcb'⟩
      · rw [e, List.length_nil] at hab1; omega
      have d0 : wr.cell? ⟨ba, oa' + j, none⟩ = some (.int .i64 (a[j]?.getD 0)) := by obtain ⟨m, e⟩ := HW.out; rw [e]; exact hca' j hlt
      have d1 : wr.cell? ⟨bb, ob' + j, none⟩ = some (.int .i64 (b[j]?.getD 0)) := by obtain ⟨m, e⟩ := HW.out; rw [e]; exact hcb' j (by omega)
      have hsj := HS.out j
      have hvj := HVa.out _ (getD_mem a j hlt)
      unfold at0 at hsj
      clear hca' hcb'
      have hj0 : (0 : Int) ≤ (j : Int) := Int.natCast_nonneg _
      have hj1 : (j : Int) < (a.length : Int) := by omega
      have hj2 : (j : Int) < (b.length : Int) := by omega
      by_cases hjc : j = c
      · subst hjc
        rw [if_pos rfl] at hsj
        rw [hsj] at d1
        clear hsj
        generalize a[j]?.getD 0 = x at *
        have hx : (x + 1 != x + 1) = false := by simp
        have hw1 : IntKind.i64.wrap (x + 1) = x + 1 := IntWalk.i64_in _ (by omega)
        have hjj : ((j : Int) == (j : Int)) = true := by simp
        go_wp2
        go_quiet (fail)
        go_wp2
        go_roundw
        case rel => exact ⟨j + 1, by omega, by go_num, by obtain ⟨m, e⟩ := HW.out; exact ⟨m + nq, by rw [e, World.drewN_drewN]⟩⟩
        case measure => simp [intOf]; omega
      · rw [if_neg hjc] at hsj
        rw [hsj] at d1
        have hne1 : ((j : Int) != (c : Int)) = true := by simp; omega
        have hne2 : ((j : Int) == (c : Int)) = false := by rw [beq_eq_false_iff_ne]; omega
        clear hsj
        generalize a[j]?.getD 0 = x at *
        have hx : (x != x) = false := by simp
        go_wp2
        go_quiet (fail)
        go_wp2
        go_roundw
        case rel => exact ⟨j + 1, by omega, by go_num, by obtain ⟨m, e⟩ := HW.out; exact ⟨m + nq, by rw [e, World.drewN_drewN]⟩⟩
        case measure => simp [intOf]; omega
    · obtain ⟨m, hm⟩ := HW.out
      have p5 : Below w.heap.size w wr := by rw [hm]; exact below_dn p4 _
      clear hm HW
      go_wp2_with fail
      refine (known4_any _).mono ?_
      rintro e w6 ⟨q6, rfl⟩
      go_wp2
      go_ret
      exact ⟨p5.trans (q6.mono p5.size), rfl⟩

set_option maxRecDepth 100000 in
set_option maxHeartbeats 4000000 in
theorem grows_err (oa : Option Addr) (os : List Int) (oc : Nat) (N K : Int) (w : World) (ho : Ints w oa os) (hl : longI os = false) (h0 : 0 ≤ N) (h1 : N < 1000) (hk : divE os N K = false) :
  Calls Try.prog 5 #[.slice oa os.length oc, .agg #[.int .i64 N, .int .i64 K]] w (BoolR w true) := by
  have hB0 := (Below.refl w.heap.size w).alloc (Nat.le_refl _) (.cells #[.int .i64 N, .int .i64 K] 24)
  have HL := hid (fun w => long4_any oa os oc w (by have := ho.len; omega))
  rw [hl] at HL
  have hk2 : divE os (N + 1) K = false := by rw [divE_succ h0 h1]; exact hk
  have e1 : divL os N K = [] := by rw [divL, hk]; rfl
  have e2 : divL os (N + 1) K = [] := by rw [divL, hk2]; rfl
  have HD := hid (fun (w' : World) (hb : Below w.heap.size w w') => divide_any oa os oc N K w' (ho.below hb))
  have HE := hid (fun (w' : World) (hb : Below w.heap.size w w') => divide_any oa os oc (N + 1) K w' (ho.below hb))
  rw [e1, hk] at HD
  rw [e2, hk2] at HE
  have hne : (err false != 0) = true := by rfl
  have hee : (err false == err false) = true := by simp
  have c0 : (w.alloc (.cells #[.int .i64 N, .int .i64 K] 24)).cell? ⟨w.heap.size, 0, none⟩ = some (.int .i64 N) := by go_simp
  have c1 : (w.alloc (.cells #[.int .i64 N, .int .i64 K] 24)).cell? ⟨w.heap.size, 1, none⟩ = some (.int .i64 K) := by go_simp
  clear e1 e2 hk hk2 hl ho
  generalize err false = er at *
  go_enter Try.func5, Try.ntmps5
  go_wp2_with fail
  refine (HL.out _).mono ?_
  rintro e w' ⟨rfl, rfl⟩
  go_wp2_with fail
  refine (HD.out _ hB0).mono ?_
  rintro e w1 ⟨q1, A1, a1, rfl, o1⟩
  have p1 := hB0.trans (q1.mono (by simp))
  rw [← q1.cell (by simp)] at c0 c1
  clear o1 q1
  go_wp2_with fail
  refine (HE.out _ p1).mono ?_
  rintro e w2 ⟨q2, A2, a2, rfl, o2⟩
  have p2 := p1.trans (q2.mono p1.size)
  clear o2 q2
  go_wp2_with fail
  refine (known4_any _).mono ?_
  rintro e w6 ⟨q6, rfl⟩
  go_wp2
  go_ret
  exact ⟨p2.trans (q6.mono p2.size), rfl⟩

set_option maxRecDepth 100000 in
set_option maxHeartbeats 4000000 in
theorem shareGrows_walk (oa : Option Addr) (os : List Int) (oc : Nat) (N K : Int) (w : World) (h1 : os.length ≤ 9223372036854775807) (hT : os.length ≤ 140737488355328 → Ints w oa os) :
  Calls Try.prog 5 #[.slice oa os.length oc, .agg #[.int .i64 N, .int .i64 K]] w (BoolR w true) := by
  have hB0 := (Below.refl w.heap.size w).alloc (Nat.le_refl _) (.cells #[.int .i64 N, .int .i64 K] 24)
  have HL := hid (fun w => long4_any oa os oc w h1)
  cases hl : longI os with
  | true =>
    rw [hl] at HL
    clear hl hT
    go_enter Try.func5, Try.ntmps5
    go_wp2_with fail
    refine (HL.out _).mono ?_
    rintro e w' ⟨rfl, rfl⟩
    go_wp2_with fail
    refine (known4_any _).mono ?_
    rintro e w2 ⟨q2, rfl⟩
    go_wp2
    go_ret
    exact ⟨hB0.trans (q2.mono (by simp)), rfl⟩
  | false =>
    have hl60 : os.length ≤ 60 := by simpa [longI] using hl
    have ho := hT (by omega)
    by_cases n0 : 0 ≤ N
    · by_cases n1 : N < 1000
      · cases hk : divE os N K with
        | false => exact grows_err oa os oc N K w ho hl n0 n1 hk
        | true =>
          obtain ⟨n, rfl⟩ := Int.eq_ofNat_of_zero_le n0
          exact grows_ok oa os oc n K w ho hl (by omega) hk
      · rw [hl] at HL
        have n1' : 1000 ≤ N := by omega
        clear hl hT n1 ho
        go_enter Try.func5, Try.ntmps5
        go_wp2_with fail
        refine (HL.out _).mono ?_
        rintro e w' ⟨rfl, rfl⟩
        go_wp2_with fail
        refine (known4_any _).mono ?_
        rintro e w2 ⟨q2, rfl⟩
        go_wp2
        go_ret
        exact ⟨hB0.trans (q2.mono (by simp)), rfl⟩
    · rw [hl] at HL
      have n0' : N < 0 := by omega
      clear hl hT n0 ho
      go_enter Try.func5, Try.ntmps5
      go_wp2_with fail
      refine (HL.out _).mono ?_
      rintro e w' ⟨rfl, rfl⟩
      go_wp2_with fail
      refine (known4_any _).mono ?_
      rintro e w2 ⟨q2, rfl⟩
      go_wp2
      go_ret
      exact ⟨hB0.trans (q2.mono (by simp)), rfl⟩
end Go.Proofs.Ytegeojlmpjepjaa
