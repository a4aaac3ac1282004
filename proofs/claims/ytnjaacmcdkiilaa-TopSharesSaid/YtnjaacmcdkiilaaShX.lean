/- The document's own divides and Check of chapter 4. (Written by wip/tools/gen_shdiv.py.) -/
import Derived.Test.YtnjaacmcdkiilaaShP
set_option linter.unusedVariables false
namespace Go.Proofs.Ytnjaacmcdkiilaa
open Go.RowKit

theorem prov_iff {kind : Int} {os ms : List Int} {p q : Int} : provM kind os ms p q = true ↔ ∀ i, i < os.length → (0 < at0 ms i → provA (unitV kind) p q (heldC kind os ms i) = true) ∧ provB (unitV kind) p q (nextC kind os ms i) = true := by
  unfold provM
  rw [Bool.and_eq_true, List.all_eq_true, List.all_eq_true]
  constructor
  · rintro ⟨h1, h2⟩ i hi
    exact ⟨fun hp => h1 _ ((heldTo_mem _ _ _ _ _).2 ⟨i, hi, hp, rfl⟩), h2 _ (nextC_mem kind os ms hi)⟩
  · intro h
    constructor
    · intro c hc
      obtain ⟨i, hi, hp, rfl⟩ := (heldTo_mem _ _ _ _ _).1 hc
      exact (h i hi).1 hp
    · intro c hc
      obtain ⟨i, hi, rfl⟩ := nextL_mem hc
      exact (h i hi).2

set_option maxRecDepth 100000 in
set_option maxHeartbeats 8000000 in
theorem rdivides_half (kind : Int) (oa ma : Option Addr) (os ms : List Int) (oc mc : Nat) (p q : Int) (w : World) (ho : Ints w oa os) (hm : Ints w ma ms) (g1 : okO os = true) (g2 : okMs os ms = true) (g3 : okK kind = true) (p1 : 1 ≤ p) (p2 : p ≤ 1000000000) (q1 : 1 ≤ q) (q2 : q ≤ 1000000000) (hkd : kind = 1) :
  Calls Try.prog 61 #[.slice oa os.length oc, .slice ma ms.length mc, .int .i64 kind, .agg #[.int .i64 p, .int .i64 q]] w (BoolR w (provM kind os ms p q)) := by
  have HK := hid g3
  have HI := hid (prov_iff (kind := kind) (os := os) (ms := ms) (p := p) (q := q))
  rw [show unitV kind = 2 by unfold unitV; rw [if_pos hkd]] at HI
  have hkf : (kind == 1) = true := by simp [hkd]
  obtain ⟨h1, h2, h3⟩ := okO_len g1
  obtain ⟨g4, g5⟩ := okMs_len g2
  have HOb := hid (fun k hk => allIn_at h3 k hk)
  have HMb := hid (fun k hk => allIn_at g5 k hk)
  have g4a : ms.length ≤ os.length := by omega
  have g4b : os.length ≤ ms.length := by omega
  have hB0 := (Below.refl w.heap.size w).alloc (Nat.le_refl _) (.cells #[.int .i64 p, .int .i64 q] 39)
  have HO := hid (ho.below hB0)
  have HM := hid (hm.below hB0)
  have hc0 : (w.alloc (.cells #[.int .i64 p, .int .i64 q] 39)).cell? ⟨w.heap.size, 0, none⟩ = some (.int .i64 p) := by go_simp
  have hc1 : (w.alloc (.cells #[.int .i64 p, .int .i64 q] 39)).cell? ⟨w.heap.size, 1, none⟩ = some (.int .i64 q) := by go_simp
  clear g4 g1 g2 g3 h3 g5 ho hm hkd
  go_enter Try.func61, Try.ntmps61
  go_wp2
  generalize hwb : w.alloc (.cells #[.int .i64 p, .int .i64 q] 39) = wb at *
  have hwl : w.heap.size < wb.heap.size := cell_lt hc0
  clear hwb
  have HC0 := hid hc0
  have HC1 := hid hc1
  clear hc0 hc1
  go_loopw [10] (fun i wr => ∃ j : Nat, j ≤ os.length ∧ i = .int .i64 (j : Int) ∧ Hid (∀ i, i < j → (0 < at0 ms i → provA 2 p q (heldC kind os ms i) = true) ∧ provB 2 p q (nextC kind os ms i) = true) ∧ Below wb.heap.size wb wr) (fun i _ => os.length - (intOf i).toNat)
  case atStart => exact ⟨0, Nat.zero_le _, rfl, fun k hk => by omega, Below.refl _ _⟩
  case round =>
    obtain ⟨j, hj, rfl, HP, hB⟩ := hrel
    by_cases hlt : j < os.length
    · rcases (HO.out.below hB).at_ with e | ⟨b, off, rfl, hc⟩
      · rw [e] at hlt; simp at hlt
      rcases (HM.out.below hB).at_ with e | ⟨bm, om, rfl, hcm⟩
      · rw [e, List.length_nil] at g4b; omega
      have d0 := hc j hlt
      have d1 := hcm j (by omega)
      have b0 := HOb.out j hlt
      have b1 := HMb.out j (by omega)
      have e0 : wr.cell? ⟨w.heap.size, 0, none⟩ = some (.int .i64 p) := by rw [hB.cell hwl]; exact HC0.out
      have e1 : wr.cell? ⟨w.heap.size, 1, none⟩ = some (.int .i64 q) := by rw [hB.cell hwl]; exact HC1.out
      have hj0 : (0 : Int) ≤ (j : Int) := Int.natCast_nonneg _
      have hj2 : (j : Int) < (os.length : Int) := by omega
      have hj3 : (j : Int) < (ms.length : Int) := by omega
      have HQ := hid (show ((0 < at0 ms j → provA 2 p q (heldC kind os ms j) = true) ∧ provB 2 p q (nextC kind os ms j) = true) → ∀ i, i < j + 1 → (0 < at0 ms i → provA 2 p q (heldC kind os ms i) = true) ∧ provB 2 p q (nextC kind os ms i) = true from fun h i hi => by
        by_cases e : i = j
        · subst e; exact h
        · exact HP.out i (by omega))
      have HN := hid (show ¬ ((0 < at0 ms j → provA 2 p q (heldC kind os ms j) = true) ∧ provB 2 p q (nextC kind os ms j) = true) → provM kind os ms p q = false from fun h => by
        rw [Bool.eq_false_iff]
        exact fun g => h (HI.out.1 g j hlt))
      have HA := hid (show provA 2 p q (heldC kind os ms j) = decide (stepV kind (ms[j]?.getD 0 - 1) * p ≤ os[j]?.getD 0 * 2 * q) from rfl)
      have HBb := hid (show provB 2 p q (nextC kind os ms j) = decide (os[j]?.getD 0 * 2 * q ≤ stepV kind (ms[j]?.getD 0) * p) from rfl)
      rw [HA.out, HBb.out] at HQ HN
      unfold at0 at HQ HN
      clear hc hcm HA HBb
      generalize os[j]?.getD 0 = v at *
      generalize ms[j]?.getD 0 = k at *
      have hv1 := mul_bd (by omega : 0 ≤ v) b0.2 (by omega : (0 : Int) ≤ 2) (Int.le_refl 2)
      have hv2 := mul_bd hv1.1 hv1.2 (by omega : 0 ≤ q) q2
      have hw1 : IntKind.i64.wrap (v * 2) = v * 2 := IntWalk.i64_in _ (by omega)
      have hw2 : IntKind.i64.wrap (v * 2 * q) = v * 2 * q := IntWalk.i64_in _ (by omega)
      go_wp2
      go_quiet (fail)
      have q1' : Below wb.heap.size wb (wr.drewN nq) := below_dn hB _
      have f0 : (wr.drewN nq).cell? ⟨w.heap.size, 0, none⟩ = some (.int .i64 p) := e0
      have f1 : (wr.drewN nq).cell? ⟨bm, om + j, none⟩ = some (.int .i64 k) := d1
      clear hw1 hw2 d0 d1 e0 e1 hB
      generalize wr.drewN nq = wd at *
      have st2 := stepV_bd (kind := kind) (k := k) b1.1 (by omega)
      have Q2 := hid (fun n => Calls.quiet_of_same (w := wd) ((rstep_any kind k (wd.drewN n) HK.out b1.1 (by omega)).mono fun _ _ h => ⟨h.2, h.1.symm⟩))
      generalize hV : v * 2 * q = V at *
      generalize stepV kind k = s2 at *
      have m2 := mul_bd st2.1 st2.2 (by omega : 0 ≤ p) p2
      have hw4 : IntKind.i64.wrap (s2 * p) = s2 * p := IntWalk.i64_in _ (by omega)
      have HVV := hid hV
      clear hV
      by_cases hp : 0 < k
      · have st1 := stepV_bd (kind := kind) (k := k - 1) (by omega) (by omega)
        have Q1 := hid (fun n => Calls.quiet_of_same (w := wd) ((rstep_any kind (k - 1) (wd.drewN n) HK.out (by omega) (by omega)).mono fun _ _ h => ⟨h.2, h.1.symm⟩))
        generalize stepV kind (k - 1) = s1 at *
        have m1 := mul_bd st1.1 st1.2 (by omega : 0 ≤ p) p2
        have hw3 : IntKind.i64.wrap (s1 * p) = s1 * p := IntWalk.i64_in _ (by omega)
        have hw5 : IntKind.i64.wrap (k - 1) = k - 1 := IntWalk.i64_in _ (by omega)
        by_cases t1 : s1 * p ≤ V
        · have t1d : decide (V < s1 * p) = false := by simp; omega
          by_cases t2 : V ≤ s2 * p
          · have HX := hid (HQ.out ⟨fun _ => decide_eq_true t1, decide_eq_true t2⟩)
            have t2d : decide (s2 * p < V) = false := by simp; omega
            go_wp2_with fail
            go_quiet ((go_at_call 67; first | with_reducible exact Q1.out _ | with_reducible exact Q2.out _))
            go_wp2
            go_roundw
            case rel => exact ⟨j + 1, by omega, by go_num, HX.out, below_dn q1' _⟩
            case measure => simp [intOf]; omega
          · have HX := hid (HN.out (fun h => t2 (of_decide_eq_true h.2)))
            have t2' : s2 * p < V := by omega
            clear t2
            go_wp2_with fail
            go_quiet ((go_at_call 67; first | with_reducible exact Q1.out _ | with_reducible exact Q2.out _))
            go_wp2
            go_ret
            exact ⟨hB0.trans ((below_dn q1' _).mono (by omega)), by rw [HX.out]; rfl⟩
        · have HX := hid (HN.out (fun h => t1 (of_decide_eq_true (h.1 hp))))
          have t1' : V < s1 * p := by omega
          clear t1
          go_wp2_with fail
          go_quiet ((go_at_call 67; first | with_reducible exact Q1.out _))
          go_wp2
          go_ret
          exact ⟨hB0.trans ((below_dn q1' _).mono (by omega)), by rw [HX.out]; rfl⟩
      · have hp' : k ≤ 0 := by omega
        have hpd : decide (0 < k) = false := by simp; omega
        by_cases t2 : V ≤ s2 * p
        · have HX := hid (HQ.out ⟨fun h => absurd h hp, decide_eq_true t2⟩)
          have t2d : decide (s2 * p < V) = false := by simp; omega
          clear hp
          go_wp2_with fail
          go_quiet ((go_at_call 67; first | with_reducible exact Q2.out _))
          go_wp2
          go_roundw
          case rel => exact ⟨j + 1, by omega, by go_num, HX.out, below_dn q1' _⟩
          case measure => simp [intOf]; omega
        · have HX := hid (HN.out (fun h => t2 (of_decide_eq_true h.2)))
          have t2' : s2 * p < V := by omega
          clear t2 hp
          go_wp2_with fail
          go_quiet ((go_at_call 67; first | with_reducible exact Q2.out _))
          go_wp2
          go_ret
          exact ⟨hB0.trans ((below_dn q1' _).mono (by omega)), by rw [HX.out]; rfl⟩
    · obtain rfl : j = os.length := by omega
      have HX := hid (HI.out.2 HP.out)
      go_wp2
      go_ret
      exact ⟨hB0.trans (hB.mono (by omega)), by rw [HX.out]; rfl⟩

set_option maxRecDepth 100000 in
set_option maxHeartbeats 8000000 in
theorem rdivides_other (kind : Int) (oa ma : Option Addr) (os ms : List Int) (oc mc : Nat) (p q : Int) (w : World) (ho : Ints w oa os) (hm : Ints w ma ms) (g1 : okO os = true) (g2 : okMs os ms = true) (g3 : okK kind = true) (p1 : 1 ≤ p) (p2 : p ≤ 1000000000) (q1 : 1 ≤ q) (q2 : q ≤ 1000000000) (hkd : ¬ kind = 1) :
  Calls Try.prog 61 #[.slice oa os.length oc, .slice ma ms.length mc, .int .i64 kind, .agg #[.int .i64 p, .int .i64 q]] w (BoolR w (provM kind os ms p q)) := by
  have HK := hid g3
  have HI := hid (prov_iff (kind := kind) (os := os) (ms := ms) (p := p) (q := q))
  rw [show unitV kind = 1 by unfold unitV; rw [if_neg hkd]] at HI
  have hkf : (kind == 1) = false := by simp [hkd]
  obtain ⟨h1, h2, h3⟩ := okO_len g1
  obtain ⟨g4, g5⟩ := okMs_len g2
  have HOb := hid (fun k hk => allIn_at h3 k hk)
  have HMb := hid (fun k hk => allIn_at g5 k hk)
  have g4a : ms.length ≤ os.length := by omega
  have g4b : os.length ≤ ms.length := by omega
  have hB0 := (Below.refl w.heap.size w).alloc (Nat.le_refl _) (.cells #[.int .i64 p, .int .i64 q] 39)
  have HO := hid (ho.below hB0)
  have HM := hid (hm.below hB0)
  have hc0 : (w.alloc (.cells #[.int .i64 p, .int .i64 q] 39)).cell? ⟨w.heap.size, 0, none⟩ = some (.int .i64 p) := by go_simp
  have hc1 : (w.alloc (.cells #[.int .i64 p, .int .i64 q] 39)).cell? ⟨w.heap.size, 1, none⟩ = some (.int .i64 q) := by go_simp
  clear g4 g1 g2 g3 h3 g5 ho hm hkd
  go_enter Try.func61, Try.ntmps61
  go_wp2
  generalize hwb : w.alloc (.cells #[.int .i64 p, .int .i64 q] 39) = wb at *
  have hwl : w.heap.size < wb.heap.size := cell_lt hc0
  clear hwb
  have HC0 := hid hc0
  have HC1 := hid hc1
  clear hc0 hc1
  go_loopw [10] (fun i wr => ∃ j : Nat, j ≤ os.length ∧ i = .int .i64 (j : Int) ∧ Hid (∀ i, i < j → (0 < at0 ms i → provA 1 p q (heldC kind os ms i) = true) ∧ provB 1 p q (nextC kind os ms i) = true) ∧ Below wb.heap.size wb wr) (fun i _ => os.length - (intOf i).toNat)
  case atStart => exact ⟨0, Nat.zero_le _, rfl, fun k hk => by omega, Below.refl _ _⟩
  case round =>
    obtain ⟨j, hj, rfl, HP, hB⟩ := hrel
    by_cases hlt : j < os.length
    · rcases (HO.out.below hB).at_ with e | ⟨b, off, rfl, hc⟩
      · rw [e] at hlt; simp at hlt
      rcases (HM.out.below hB).at_ with e | ⟨bm, om, rfl, hcm⟩
      · rw [e, List.length_nil] at g4b; omega
      have d0 := hc j hlt
      have d1 := hcm j (by omega)
      have b0 := HOb.out j hlt
      have b1 := HMb.out j (by omega)
      have e0 : wr.cell? ⟨w.heap.size, 0, none⟩ = some (.int .i64 p) := by rw [hB.cell hwl]; exact HC0.out
      have e1 : wr.cell? ⟨w.heap.size, 1, none⟩ = some (.int .i64 q) := by rw [hB.cell hwl]; exact HC1.out
      have hj0 : (0 : Int) ≤ (j : Int) := Int.natCast_nonneg _
      have hj2 : (j : Int) < (os.length : Int) := by omega
      have hj3 : (j : Int) < (ms.length : Int) := by omega
      have HQ := hid (show ((0 < at0 ms j → provA 1 p q (heldC kind os ms j) = true) ∧ provB 1 p q (nextC kind os ms j) = true) → ∀ i, i < j + 1 → (0 < at0 ms i → provA 1 p q (heldC kind os ms i) = true) ∧ provB 1 p q (nextC kind os ms i) = true from fun h i hi => by
        by_cases e : i = j
        · subst e; exact h
        · exact HP.out i (by omega))
      have HN := hid (show ¬ ((0 < at0 ms j → provA 1 p q (heldC kind os ms j) = true) ∧ provB 1 p q (nextC kind os ms j) = true) → provM kind os ms p q = false from fun h => by
        rw [Bool.eq_false_iff]
        exact fun g => h (HI.out.1 g j hlt))
      have HA := hid (show provA 1 p q (heldC kind os ms j) = decide (stepV kind (ms[j]?.getD 0 - 1) * p ≤ os[j]?.getD 0 * 1 * q) from rfl)
      have HBb := hid (show provB 1 p q (nextC kind os ms j) = decide (os[j]?.getD 0 * 1 * q ≤ stepV kind (ms[j]?.getD 0) * p) from rfl)
      rw [HA.out, HBb.out] at HQ HN
      unfold at0 at HQ HN
      clear hc hcm HA HBb
      generalize os[j]?.getD 0 = v at *
      generalize ms[j]?.getD 0 = k at *
      simp only [Int.mul_one] at HQ HN
      have hv2 := mul_bd (by omega : 0 ≤ v) b0.2 (by omega : 0 ≤ q) q2
      have hw1 : IntKind.i64.wrap v = v := IntWalk.i64_in _ (by omega)
      have hw2 : IntKind.i64.wrap (v * q) = v * q := IntWalk.i64_in _ (by omega)
      go_wp2
      go_quiet (fail)
      have q1' : Below wb.heap.size wb (wr.drewN nq) := below_dn hB _
      have f0 : (wr.drewN nq).cell? ⟨w.heap.size, 0, none⟩ = some (.int .i64 p) := e0
      have f1 : (wr.drewN nq).cell? ⟨bm, om + j, none⟩ = some (.int .i64 k) := d1
      clear hw1 hw2 d0 d1 e0 e1 hB
      generalize wr.drewN nq = wd at *
      have st2 := stepV_bd (kind := kind) (k := k) b1.1 (by omega)
      have Q2 := hid (fun n => Calls.quiet_of_same (w := wd) ((rstep_any kind k (wd.drewN n) HK.out b1.1 (by omega)).mono fun _ _ h => ⟨h.2, h.1.symm⟩))
      generalize hV : v * q = V at *
      generalize stepV kind k = s2 at *
      have m2 := mul_bd st2.1 st2.2 (by omega : 0 ≤ p) p2
      have hw4 : IntKind.i64.wrap (s2 * p) = s2 * p := IntWalk.i64_in _ (by omega)
      have HVV := hid hV
      clear hV
      by_cases hp : 0 < k
      · have st1 := stepV_bd (kind := kind) (k := k - 1) (by omega) (by omega)
        have Q1 := hid (fun n => Calls.quiet_of_same (w := wd) ((rstep_any kind (k - 1) (wd.drewN n) HK.out (by omega) (by omega)).mono fun _ _ h => ⟨h.2, h.1.symm⟩))
        generalize stepV kind (k - 1) = s1 at *
        have m1 := mul_bd st1.1 st1.2 (by omega : 0 ≤ p) p2
        have hw3 : IntKind.i64.wrap (s1 * p) = s1 * p := IntWalk.i64_in _ (by omega)
        have hw5 : IntKind.i64.wrap (k - 1) = k - 1 := IntWalk.i64_in _ (by omega)
        by_cases t1 : s1 * p ≤ V
        · have t1d : decide (V < s1 * p) = false := by simp; omega
          by_cases t2 : V ≤ s2 * p
          · have HX := hid (HQ.out ⟨fun _ => decide_eq_true t1, decide_eq_true t2⟩)
            have t2d : decide (s2 * p < V) = false := by simp; omega
            go_wp2_with fail
            go_quiet ((go_at_call 67; first | with_reducible exact Q1.out _ | with_reducible exact Q2.out _))
            go_wp2
            go_roundw
            case rel => exact ⟨j + 1, by omega, by go_num, HX.out, below_dn q1' _⟩
            case measure => simp [intOf]; omega
          · have HX := hid (HN.out (fun h => t2 (of_decide_eq_true h.2)))
            have t2' : s2 * p < V := by omega
            clear t2
            go_wp2_with fail
            go_quiet ((go_at_call 67; first | with_reducible exact Q1.out _ | with_reducible exact Q2.out _))
            go_wp2
            go_ret
            exact ⟨hB0.trans ((below_dn q1' _).mono (by omega)), by rw [HX.out]; rfl⟩
        · have HX := hid (HN.out (fun h => t1 (of_decide_eq_true (h.1 hp))))
          have t1' : V < s1 * p := by omega
          clear t1
          go_wp2_with fail
          go_quiet ((go_at_call 67; first | with_reducible exact Q1.out _))
          go_wp2
          go_ret
          exact ⟨hB0.trans ((below_dn q1' _).mono (by omega)), by rw [HX.out]; rfl⟩
      · have hp' : k ≤ 0 := by omega
        have hpd : decide (0 < k) = false := by simp; omega
        by_cases t2 : V ≤ s2 * p
        · have HX := hid (HQ.out ⟨fun h => absurd h hp, decide_eq_true t2⟩)
          have t2d : decide (s2 * p < V) = false := by simp; omega
          clear hp
          go_wp2_with fail
          go_quiet ((go_at_call 67; first | with_reducible exact Q2.out _))
          go_wp2
          go_roundw
          case rel => exact ⟨j + 1, by omega, by go_num, HX.out, below_dn q1' _⟩
          case measure => simp [intOf]; omega
        · have HX := hid (HN.out (fun h => t2 (of_decide_eq_true h.2)))
          have t2' : s2 * p < V := by omega
          clear t2 hp
          go_wp2_with fail
          go_quiet ((go_at_call 67; first | with_reducible exact Q2.out _))
          go_wp2
          go_ret
          exact ⟨hB0.trans ((below_dn q1' _).mono (by omega)), by rw [HX.out]; rfl⟩
    · obtain rfl : j = os.length := by omega
      have HX := hid (HI.out.2 HP.out)
      go_wp2
      go_ret
      exact ⟨hB0.trans (hB.mono (by omega)), by rw [HX.out]; rfl⟩

end Go.Proofs.Ytnjaacmcdkiilaa
