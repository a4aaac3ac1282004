/- The law ShareRemainders: its walk. -/
import Derived.Test.YtnjaacmcdkiilaaShRemK
import Derived.Test.YtnjaacmcdkiilaaShSmall
set_option linter.unusedVariables false
namespace Go.Proofs.Ytnjaacmcdkiilaa
open Go.RowKit

theorem remV_vals (os : List Int) (n : Int) : ∀ x ∈ remV os n, 0 ≤ x ∧ x ≤ 1000 := by
  unfold remV
  split
  · rename_i h; exact remL_vals h
  · simp
theorem losV_vals (os : List Int) (n : Int) : ∀ x ∈ losV os n, 0 ≤ x ∧ x < (os.length : Int) := by
  unfold losV
  split
  · exact losTo_bd _ _ _
  · simp
theorem remV_len (os : List Int) (n : Int) : (remV os n).length ≤ os.length := by
  unfold remV
  split
  · rw [remL_len]; exact Nat.le_refl _
  · simp
theorem losV_len (os : List Int) (n : Int) : (losV os n).length ≤ os.length := by
  unfold losV
  split
  · exact losTo_len _ _ _
  · simp

set_option maxRecDepth 100000 in
set_option maxHeartbeats 4000000 in
theorem shareRemainders_walk (oa : Option Addr) (os : List Int) (oc : Nat) (n : Int) (w : World) (h1 : os.length ≤ 9223372036854775807) (hT : os.length ≤ 140737488355328 → Ints w oa os) :
  Calls Try.prog 9 #[.slice oa os.length oc, .int .i64 n] w (BoolR w true) := by
  have HL := hid (fun w => long4_any oa os oc w h1)
  cases hl : longI os with
  | true =>
    rw [hl] at HL
    clear hl hT
    go_enter Try.func9, Try.ntmps9
    go_wp2_with fail
    refine (HL.out _).mono ?_
    rintro e w' ⟨rfl, rfl⟩
    go_wp2_with fail
    refine (known4_any _).mono ?_
    rintro e w2 ⟨q2, rfl⟩
    go_wp2
    go_ret
    exact ⟨q2, rfl⟩
  | false =>
    rw [hl] at HL
    have hl60 : os.length ≤ 60 := by simpa [longI] using hl
    have ho := hT (by omega)
    clear hl hT
    have HA := hid (fun (w' : World) (hb : Below w.heap.size w w') => remainders_any oa os oc n w' (ho.below hb))
    have HB := hid (fun (w' : World) (hb : Below w.heap.size w w') => rremainders_any oa os oc n w' (ho.below hb))
    have HC := hid (fun (w' : World) (hb : Below w.heap.size w w') => loses_any oa os oc n w' (ho.below hb))
    have HD := hid (fun (w' : World) (hb : Below w.heap.size w w') => rloses_any oa os oc n w' (ho.below hb))
    have HRv := hid (remV_vals os n)
    have HLv := hid (losV_vals os n)
    have hrl := remV_len os n
    have hll := losV_len os n
    have HK := hid (fun (A : Option Addr) (c : Nat) (w' : World) (hb : Below w.heap.size w w') (hI : Ints w' A (remV os n)) => keeps_any oa A os (remV os n) oc c w' (ho.below hb) hI)
    have HOk := hid (show err (remO os n) = 0 → sumL (remV os n) = n ∧ keepsL os (remV os n) = true ∧ err (okP os (remV os n)) = 0 from by
      intro he
      have hr : remO os n = true := by
        cases h : remO os n with
        | true => rfl
        | false => rw [h] at he; cases he
      have e : remV os n = remL os n := by unfold remV; rw [if_pos hr]
      obtain ⟨k1, k2⟩ := remL_keeps hr
      rw [e, k1, k2]
      exact ⟨remL_sum hr, rfl, rfl⟩)
    clear ho
    generalize err (remO os n) = e1 at *
    generalize err (losO os n) = e2 at *
    generalize losV os n = ls at *
    generalize keepsL os (remV os n) = kp at *
    generalize err (okP os (remV os n)) = er at *
    generalize remV os n = rs at *
    go_enter Try.func9, Try.ntmps9
    go_wp2_with fail
    refine (HL.out _).mono ?_
    rintro e w' ⟨rfl, rfl⟩
    go_wp2_with fail
    refine (HA.out w (Below.refl _ _)).mono ?_
    rintro e w1 ⟨p1, A1, c1, rfl, o1⟩
    obtain ⟨_, _, hv1, i1⟩ := o1.ints (by omega) (small_i64 HRv.out (by omega) (by omega))
    cases hv1
    clear o1
    go_wp2_with fail
    refine (HB.out w1 p1).mono ?_
    rintro e w2 ⟨q2, A2, c2, rfl, o2⟩
    have p2 := p1.trans (q2.mono p1.size)
    obtain ⟨_, _, hv2, i2⟩ := o2.ints (by omega) (small_i64 HRv.out (by omega) (by omega))
    cases hv2
    have I1 := hid (i1.below q2)
    have I2 := hid i2
    clear o2 i1 i2
    go_wp2_with fail
    refine (HC.out w2 p2).mono ?_
    rintro e w3 ⟨q3, A3, c3, rfl, o3⟩
    have p3 := p2.trans (q3.mono p2.size)
    obtain ⟨_, _, hv3, i3⟩ := o3.ints (by omega) (fun x hx => by have := HLv.out x hx; omega)
    cases hv3
    have J1 := hid (I1.out.below q3)
    have J2 := hid (I2.out.below q3)
    have J3 := hid i3
    clear o3 i3 I1 I2
    go_wp2_with fail
    refine (HD.out w3 p3).mono ?_
    rintro e w4 ⟨q4, A4, c4, rfl, o4⟩
    have p4 := p3.trans (q4.mono p3.size)
    obtain ⟨_, _, hv4, i4⟩ := o4.ints (by omega) (fun x hx => by have := HLv.out x hx; omega)
    cases hv4
    have K1 := hid (J1.out.below q4)
    have K2 := hid (J2.out.below q4)
    have K3 := hid (J3.out.below q4)
    have K4 := hid i4
    clear o4 i4 J1 J2 J3
    have HS1 := hid (same_self A1 A2 rs c1 c2 w4 K1.out K2.out)
    go_wp2_with fail
    refine HS1.out.mono ?_
    rintro e w5 ⟨q5, rfl⟩
    have p5 := p4.trans (q5.mono p4.size)
    have HS2 := hid (same_self A3 A4 ls c3 c4 w5 (K3.out.below q5) (K4.out.below q5))
    have M1 := hid (K1.out.below q5)
    clear HS1 K1 K2 K3 K4
    go_wp2_with fail
    refine HS2.out.mono ?_
    rintro e w6 ⟨q6, rfl⟩
    have p6 := p5.trans (q6.mono p5.size)
    have N1 := hid (M1.out.below q6)
    clear HS2 M1
    by_cases he : e1 = 0
    · obtain ⟨k1, k2, k3⟩ := HOk.out he
      subst he k2 k3
      go_wp2_with fail
      refine (HK.out A1 c1 w6 p6 N1.out).mono ?_
      rintro e w7 ⟨q7, rfl⟩
      have p7 := p6.trans (q7.mono p6.size)
      have HT := hid (total_any A1 rs c1 w7 (N1.out.below q7) (fun x hx => by have := HRv.out x hx; omega) (by omega))
      rw [k1] at HT
      clear HK
      go_wp2_with fail
      refine HT.out.mono ?_
      rintro e w' ⟨rfl, rfl⟩
      go_wp2_with fail
      refine (known4_any _).mono ?_
      rintro e w9 ⟨q9, rfl⟩
      go_wp2
      go_ret
      exact ⟨p7.trans (q9.mono p7.size), rfl⟩
    · have he' : (e1 != 0) = true := by simp [he]
      clear he
      go_wp2_with fail
      refine (known4_any _).mono ?_
      rintro e w9 ⟨q9, rfl⟩
      go_wp2
      go_ret
      exact ⟨p6.trans (q9.mono p6.size), rfl⟩
end Go.Proofs.Ytnjaacmcdkiilaa
