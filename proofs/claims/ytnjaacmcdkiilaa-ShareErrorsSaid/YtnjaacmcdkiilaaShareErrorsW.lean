/- The law ShareErrors: its walk. -/
import Derived.Test.YtnjaacmcdkiilaaShErrM
import Derived.Test.YtnjaacmcdkiilaaShareRemaindersW
set_option linter.unusedVariables false
namespace Go.Proofs.Ytnjaacmcdkiilaa
open Go.RowKit

/-- All that the law asks of plain values. -/
theorem errs_law {os ms : List Int} (h : okP os ms = true) (hT : sumL ms ≤ 1000) : remO os (sumL ms) = true ∧ okP os (remL os (sumL ms)) = true ∧ (errV os (remL os (sumL ms))).1 * (errV os ms).2 ≤ (errV os ms).1 * (errV os (remL os (sumL ms))).2 := by
  have hd : okO os = true ∧ okMs os ms = true := by simpa [okP] using h
  obtain ⟨ho, hm⟩ := hd
  obtain ⟨_, _, hs0, _⟩ := okMs_vals ho hm
  have hr : remO os (sumL ms) = true := by unfold remO inW; rw [ho]; simp; omega
  have hp := (remL_keeps hr).2
  refine ⟨hr, hp, ?_⟩
  have e1 : errV os (remL os (sumL ms)) = fracL (offL os (remL os (sumL ms))).toNat (sumL os).toNat := by unfold errV; rw [if_pos hp]
  have e2 : errV os ms = fracL (offL os ms).toNat (sumL os).toNat := by unfold errV; rw [if_pos h]
  rw [e1, e2]
  have hn := rem_nearest ho hm hT
  obtain ⟨_, hs1, _⟩ := okO_vals ho
  exact frac_le _ _ _ (by omega) (by omega)
theorem errV_bd (os ms : List Int) : (0 ≤ (errV os ms).1 ∧ (errV os ms).1 ≤ 64000000000) ∧ 0 ≤ (errV os ms).2 ∧ (errV os ms).2 ≤ 8000000 := by
  unfold errV
  split
  · rename_i h
    have hd : okO os = true ∧ okMs os ms = true := by simpa [okP] using h
    obtain ⟨ho, hm⟩ := hd
    obtain ⟨_, hs1, hs2⟩ := okO_vals ho
    have h1 := off_bd ho hm
    have h2 := frac_bd (offL os ms).toNat (sumL os).toNat
    generalize fracL (offL os ms).toNat (sumL os).toNat = pq at *
    omega
  · exact ⟨⟨Int.le_refl _, by decide⟩, Int.le_refl _, by decide⟩

set_option maxRecDepth 100000 in
set_option maxHeartbeats 4000000 in
theorem shareErrors_walk (oa : Option Addr) (os : List Int) (oc : Nat) (ma : Option Addr) (ms : List Int) (mc : Nat) (w : World) (h1 : os.length ≤ 9223372036854775807) (h2 : ms.length ≤ 9223372036854775807) (hT : os.length ≤ 140737488355328 → Ints w oa os) (hU : ms.length ≤ 140737488355328 → Ints w ma ms) :
  Calls Try.prog 13 #[.slice oa os.length oc, .slice ma ms.length mc] w (BoolR w true) := by
  have HL := hid (fun w => long4_any oa os oc w h1)
  have HL2 := hid (fun w => long4_any ma ms mc w h2)
  cases hl : longI os with
  | true =>
    rw [hl] at HL
    clear hl hT hU
    go_enter Try.func13, Try.ntmps13
    go_wp2_with fail
    refine (HL.out _).mono ?_
    rintro e w' ⟨rfl, rfl⟩
    go_wp2_with fail
    refine (known4_any _).mono ?_
    rintro e w2 ⟨q2, rfl⟩
    go_wp2
    go_ret
    exact ⟨q2, rfl⟩
  | false =>
    rw [hl] at HL
    have hl60 : os.length ≤ 60 := by simpa [longI] using hl
    have ho := hT (by omega)
    clear hl hT
    cases hl2 : longI ms with
    | true =>
      rw [hl2] at HL2
      clear hl2 hU ho
      go_enter Try.func13, Try.ntmps13
      go_wp2_with fail
      refine (HL.out _).mono ?_
      rintro e w' ⟨rfl, rfl⟩
      go_wp2_with fail
      refine (HL2.out _).mono ?_
      rintro e w' ⟨rfl, rfl⟩
      go_wp2_with fail
      refine (known4_any _).mono ?_
      rintro e w2 ⟨q2, rfl⟩
      go_wp2
      go_ret
      exact ⟨q2, rfl⟩
    | false =>
      rw [hl2] at HL2
      have hm60 : ms.length ≤ 60 := by simpa [longI] using hl2
      have hm := hU (by omega)
      have HA := hid (fun (w' : World) (hb : Below w.heap.size w w') => error_any oa ma os ms oc mc w' (ho.below hb) (hm.below hb))
      have HB := hid (fun (w' : World) (hb : Below w.heap.size w w') => rerror_any oa ma os ms oc mc w' (ho.below hb) (hm.below hb))
      have hbd := errV_bd os ms
      clear hl2 hU
      cases hp : okP os ms with
      | false =>
        rw [hp] at HA HB
        rw [show err false = 1 from rfl] at HA HB
        clear hp ho hm
        generalize errV os ms = pq at *
        obtain ⟨p, q⟩ := pq
        go_enter Try.func13, Try.ntmps13
        go_wp2_with fail
        refine (HL.out _).mono ?_
        rintro e w' ⟨rfl, rfl⟩
        go_wp2_with fail
        refine (HL2.out _).mono ?_
        rintro e w' ⟨rfl, rfl⟩
        go_wp2_with fail
        refine (HA.out _ (Below.refl _ _)).mono ?_
        rintro e w1 ⟨p1, rfl⟩
        have p1' := p1.alloc p1.size (.cells #[.int .i64 p, .int .i64 q] 39)
        go_wp2_with fail
        refine (HB.out _ p1').mono ?_
        rintro e w2 ⟨q2, rfl⟩
        have p2 := p1'.trans (q2.mono p1'.size)
        have hw1 : w1.heap.size < w2.heap.size := by have := q2.size; simp at this; omega
        have a0 : w2.cell? ⟨w1.heap.size, 0, none⟩ = some (.int .i64 p) := by rw [q2.cell (by simp)]; go_simp
        have a1 : w2.cell? ⟨w1.heap.size, 1, none⟩ = some (.int .i64 q) := by rw [q2.cell (by simp)]; go_simp
        have p2' := p2.alloc p2.size (.cells #[.int .i64 p, .int .i64 q] 39)
        clear q2
        go_wp2_with fail
        refine (known4_any _).mono ?_
        rintro e w3 ⟨q3, rfl⟩
        go_wp2
        go_ret
        exact ⟨p2'.trans (q3.mono p2'.size), rfl⟩
      | true =>
        rw [hp] at HA HB
        rw [show err true = 0 from rfl] at HA HB
        have hd : okO os = true ∧ okMs os ms = true := by simpa [okP] using hp
        obtain ⟨v2, hml, s3, s4⟩ := okMs_vals hd.1 hd.2
        have HTo := hid (fun (w' : World) (hb : Below w.heap.size w w') => total_any ma ms mc w' (hm.below hb) (fun x hx => by have := v2 x hx; omega) (by omega))
        by_cases hT : sumL ms ≤ 1000
        · obtain ⟨r1, r2, r3⟩ := errs_law hp hT
          have HRe := hid (fun (w' : World) (hb : Below w.heap.size w w') => remainders_any oa os oc (sumL ms) w' (ho.below hb))
          rw [r1, show remV os (sumL ms) = remL os (sumL ms) by unfold remV; rw [if_pos r1]] at HRe
          rw [show err true = 0 from rfl] at HRe
          have HEr := hid (fun A c (w' : World) (hb : Below w.heap.size w w') (hI : Ints w' A (remL os (sumL ms))) => error_any oa A os (remL os (sumL ms)) oc c w' (ho.below hb) hI)
          rw [r2, show err true = 0 from rfl] at HEr
          have hbd2 := errV_bd os (remL os (sumL ms))
          have HRv := hid (remL_vals r1)
          have hrl : (remL os (sumL ms)).length ≤ os.length := Nat.le_of_eq (remL_len os (sumL ms))
          clear hp ho hm hd v2 r1 r2 hml
          generalize remL os (sumL ms) = rs at *
          generalize sumL ms = T at *
          generalize errV os ms = pq at *
          generalize errV os rs = pq2 at *
          obtain ⟨p, q⟩ := pq
          obtain ⟨p2, q2⟩ := pq2
          dsimp only at hbd hbd2 r3
          have m1 := mul_bd hbd2.1.1 hbd2.1.2 hbd.2.1 hbd.2.2
          have m2 := mul_bd hbd.1.1 hbd.1.2 hbd2.2.1 hbd2.2.2
          have hwm1 : IntKind.i64.wrap (p2 * q) = p2 * q := IntWalk.i64_in _ (by omega)
          have hwm2 : IntKind.i64.wrap (p * q2) = p * q2 := IntWalk.i64_in _ (by omega)
          have hTd : ¬ (1000 : Int) < T := by omega
          have HR3 := hid r3
          have HW1 := hid hwm1
          have HW2 := hid hwm2
          clear m1 m2 hbd hbd2 r3 hwm1 hwm2 hT
          go_enter Try.func13, Try.ntmps13
          go_wp2_with fail
          refine (HL.out _).mono ?_
          rintro e w' ⟨rfl, rfl⟩
          go_wp2_with fail
          refine (HL2.out _).mono ?_
          rintro e w' ⟨rfl, rfl⟩
          go_wp2_with fail
          refine (HA.out _ (Below.refl _ _)).mono ?_
          rintro e w1 ⟨p1, rfl⟩
          have p1' := p1.alloc p1.size (.cells #[.int .i64 p, .int .i64 q] 39)
          go_wp2_with fail
          refine (HB.out _ p1').mono ?_
          rintro e w2 ⟨j2, rfl⟩
          have k2 := p1'.trans (j2.mono p1'.size)
          have hw1 : w1.heap.size < w2.heap.size := by have := j2.size; simp at this; omega
          have a0 : w2.cell? ⟨w1.heap.size, 0, none⟩ = some (.int .i64 p) := by rw [j2.cell (by simp)]; go_simp
          have a1 : w2.cell? ⟨w1.heap.size, 1, none⟩ = some (.int .i64 q) := by rw [j2.cell (by simp)]; go_simp
          have k2' := k2.alloc k2.size (.cells #[.int .i64 p, .int .i64 q] 39)
          have hb0 := (Below.refl w2.heap.size w2).alloc (Nat.le_refl _) (.cells #[.int .i64 p, .int .i64 q] 39)
          have a2 : (w2.alloc (.cells #[.int .i64 p, .int .i64 q] 39)).cell? ⟨w1.heap.size, 0, none⟩ = some (.int .i64 p) := by rw [hb0.cell hw1]; exact a0
          have a3 : (w2.alloc (.cells #[.int .i64 p, .int .i64 q] 39)).cell? ⟨w1.heap.size, 1, none⟩ = some (.int .i64 q) := by rw [hb0.cell hw1]; exact a1
          have hd9 : decide ((1000 : Int) < T) = false := by simp; omega
          clear j2 HA HB hb0
          go_wp2_with fail
          generalize w2.alloc (.cells #[.int .i64 p, .int .i64 q] 39) = w3 at *
          refine (HTo.out _ k2').mono ?_
          rintro e w' ⟨rfl, rfl⟩
          have A2 := hid (fun W (hb : Below w3.heap.size w3 W) => show W.cell? ⟨w1.heap.size, 0, none⟩ = some (.int .i64 p) ∧ W.cell? ⟨w1.heap.size, 1, none⟩ = some (.int .i64 q) from
            ⟨by rw [hb.cell (cell_lt a2)]; exact a2, by rw [hb.cell (cell_lt a3)]; exact a3⟩)
          clear a0 a1
          go_wp2_with fail
          refine (HTo.out _ k2').mono ?_
          rintro e w' ⟨rfl, rfl⟩
          clear a2 a3
          go_wp2_with fail
          refine (HRe.out _ k2').mono ?_
          rintro e w4 ⟨j4, A, c, rfl, o4⟩
          have k4 := k2'.trans (j4.mono k2'.size)
          obtain ⟨_, _, hv4, i4⟩ := o4.ints (by omega) (small_i64 HRv.out (by omega) (by omega))
          cases hv4
          clear o4
          go_wp2_with fail
          refine (HEr.out _ _ _ k4 i4).mono ?_
          rintro e w5 ⟨j5, rfl⟩
          have k5 := k4.trans (j5.mono k4.size)
          obtain ⟨b0, b1⟩ := A2.out w5 (j4.trans (j5.mono j4.size))
          have hw5 : w1.heap.size < w5.heap.size := cell_lt b0
          have k5' := k5.alloc k5.size (.cells #[.int .i64 p2, .int .i64 q2] 39)
          clear j4 j5 i4 A2 HRe HEr HTo
          have r3 := HR3.out
          have hwm1 := HW1.out
          have hwm2 := HW2.out
          have hd3 : decide (p2 * q ≤ p * q2) = true := decide_eq_true r3
          clear HR3 HW1 HW2
          go_wp2_with fail
          refine (known4_any _).mono ?_
          rintro e w6 ⟨j6, rfl⟩
          go_wp2
          go_ret
          exact ⟨k5'.trans (j6.mono k5'.size), rfl⟩
        · have hTd : (1000 : Int) < sumL ms := by omega
          clear hp ho hm hd v2 hT hml
          generalize sumL ms = T at *
          generalize errV os ms = pq at *
          obtain ⟨p, q⟩ := pq
          go_enter Try.func13, Try.ntmps13
          go_wp2_with fail
          refine (HL.out _).mono ?_
          rintro e w' ⟨rfl, rfl⟩
          go_wp2_with fail
          refine (HL2.out _).mono ?_
          rintro e w' ⟨rfl, rfl⟩
          go_wp2_with fail
          refine (HA.out _ (Below.refl _ _)).mono ?_
          rintro e w1 ⟨p1, rfl⟩
          have p1' := p1.alloc p1.size (.cells #[.int .i64 p, .int .i64 q] 39)
          go_wp2_with fail
          refine (HB.out _ p1').mono ?_
          rintro e w2 ⟨j2, rfl⟩
          have k2 := p1'.trans (j2.mono p1'.size)
          have hw1 : w1.heap.size < w2.heap.size := by have := j2.size; simp at this; omega
          have a0 : w2.cell? ⟨w1.heap.size, 0, none⟩ = some (.int .i64 p) := by rw [j2.cell (by simp)]; go_simp
          have a1 : w2.cell? ⟨w1.heap.size, 1, none⟩ = some (.int .i64 q) := by rw [j2.cell (by simp)]; go_simp
          have k2' := k2.alloc k2.size (.cells #[.int .i64 p, .int .i64 q] 39)
          clear j2 HA HB
          go_wp2_with fail
          refine (HTo.out _ k2').mono ?_
          rintro e w' ⟨rfl, rfl⟩
          go_wp2_with fail
          refine (known4_any _).mono ?_
          rintro e w6 ⟨j6, rfl⟩
          go_wp2
          go_ret
          exact ⟨k2'.trans (j6.mono k2'.size), rfl⟩
end Go.Proofs.Ytnjaacmcdkiilaa
