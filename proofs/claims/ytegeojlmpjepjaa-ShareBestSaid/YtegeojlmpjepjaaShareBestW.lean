/- The law ShareBest: its walk. -/
import Derived.Test.YtegeojlmpjepjaaShBest
import Derived.Test.YtegeojlmpjepjaaShBestM
import Derived.Test.YtegeojlmpjepjaaShSmall
set_option linter.unusedVariables false
namespace Go.Proofs.Ytegeojlmpjepjaa
open Go.RowKit

theorem mul_bd4 {a b A B : Int} (h1 : 0 ≤ a) (h2 : a ≤ A) (h3 : 0 ≤ b) (h4 : b ≤ B) : 0 ≤ a * b ∧ a * b ≤ A * B :=
  ⟨Int.mul_nonneg h1 h3, Int.mul_le_mul h2 h4 h3 (by omega)⟩

set_option maxRecDepth 100000 in
set_option maxHeartbeats 8000000 in
theorem shBest_ok (oa : Option Addr) (os : List Int) (oc n : Nat) (w : World) (ho : Ints w oa os) (hl : longI os = false) (g1 : okO os = true) (hn : n ≤ 1000) :
  Calls Try.prog 14 #[.slice oa os.length oc, .int .i64 (n : Int)] w (BoolR w true) := by
  have HL := hid (fun w => long4_any oa os oc w (by have := ho.len; omega))
  rw [hl] at HL
  obtain ⟨v1, s1, s2⟩ := okO_vals g1
  have h8 := okO_len g1
  have hl1 := h8.1
  have hl8 := h8.2.1
  have HB := hid (fun (w' : World) (hb : Below w.heap.size w w') => best_ok oa os oc n w' (ho.below hb) g1 hn)
  have HBr := hid (fun (w' : World) (hb : Below w.heap.size w w') => rbest_ok oa os oc n w' (ho.below hb) g1 hn)
  have HTo := hid (fun (w' : World) (hb : Below w.heap.size w w') => total_any oa os oc w' (ho.below hb) (fun x hx => by have := v1 x hx; omega) (by omega))
  have HLn := hid (fun k => giveL_len2 k os n)
  have HVl := hid (fun k => giveL_vals k os n hn)
  have HIn := hid (fun (k : Int) (w' : World) (b : Nat) (A : Option Addr) (c : Nat) (h : Own w' b (.slice A os.length c) (kindL os n k)) => show Ints w' A (kindL os n k) by
    have hle : (kindL os n k).length = os.length := giveL_len2 k os n
    obtain ⟨_, _, hv, hI⟩ := h.ints (by omega) (small_i64 (giveL_vals k os n hn) (by omega) (by omega))
    rw [hle] at hv
    cases hv
    exact hI)
  have HDn := hid (fun i hi => down_quota g1 n hn i hi)
  have HUp := hid (fun i hi hp => up_quota g1 n hn i hi hp)
  have HV1 := hid v1
  have HO := hid ho
  clear hl g1 v1 h8 ho
  go_enter Try.func14, Try.ntmps14
  go_wp2_with fail
  refine (HL.out _).mono ?_
  rintro e w' ⟨rfl, rfl⟩
  go_wp2_with fail
  refine (HB.out _ (Below.refl _ _)).mono ?_
  rintro e w1 ⟨z1, A0, c0, A1, c1, A2, c2, rfl, o0, o1, o2⟩
  have i0 := HIn.out 0 _ _ _ _ o0
  have i1 := HIn.out 1 _ _ _ _ o1
  have i2 := HIn.out 2 _ _ _ _ o2
  have m1 := (Below.refl w1.heap.size w1).alloc (Nat.le_refl _) (.cells #[.slice A0 os.length c0, .slice A1 os.length c1, .slice A2 os.length c2] 57)
  have R1 := hid (show Row3 (w1.alloc (.cells #[.slice A0 os.length c0, .slice A1 os.length c1, .slice A2 os.length c2] 57)) w1.heap.size (.slice A0 os.length c0) (.slice A1 os.length c1) (.slice A2 os.length c2) from ⟨by go_simp, by go_simp, by go_simp, by go_simp, by go_simp, by go_simp⟩)
  have p1 := z1.trans (m1.mono z1.size)
  have I0 := hid (i0.below m1)
  have I1 := hid (i1.below m1)
  have I2 := hid (i2.below m1)
  clear o0 o1 o2 i0 i1 i2 z1 m1
  go_wp2_with fail
  refine (HBr.out _ p1).mono ?_
  rintro e w2 ⟨z2, B0, d0, B1, d1, B2, d2, rfl, o0, o1, o2⟩
  have j0 := HIn.out 0 _ _ _ _ o0
  have j1 := HIn.out 1 _ _ _ _ o1
  have j2 := HIn.out 2 _ _ _ _ o2
  have m2 := (Below.refl w2.heap.size w2).alloc (Nat.le_refl _) (.cells #[.slice B0 os.length d0, .slice B1 os.length d1, .slice B2 os.length d2] 57)
  have R2 := hid (show Row3 (w2.alloc (.cells #[.slice B0 os.length d0, .slice B1 os.length d1, .slice B2 os.length d2] 57)) w2.heap.size (.slice B0 os.length d0) (.slice B1 os.length d1) (.slice B2 os.length d2) from ⟨by go_simp, by go_simp, by go_simp, by go_simp, by go_simp, by go_simp⟩)
  have R1 := hid ((R1.out.keep z2).keep m2)
  have p2 := p1.trans ((z2.trans (m2.mono z2.size)).mono p1.size)
  have I0 := hid ((I0.out.below z2).below m2)
  have I1 := hid ((I1.out.below z2).below m2)
  have I2 := hid ((I2.out.below z2).below m2)
  have J0 := hid (j0.below m2)
  have J1 := hid (j1.below m2)
  have J2 := hid (j2.below m2)
  clear o0 o1 o2 j0 j1 j2 z2 m2
  have HS0 := hid (fun (w' : World) (x : Ints w' A0 (kindL os n 0)) (y : Ints w' B0 (kindL os n 0)) => by
    have := same_any A0 B0 (kindL os n 0) (kindL os n 0) c0 d0 w' x y
    rw [show (kindL os n 0).length = os.length from HLn.out 0, show sameB (kindL os n 0) (kindL os n 0) = true by simp [sameB]] at this
    exact this)
  have HS1 := hid (fun (w' : World) (x : Ints w' A1 (kindL os n 1)) (y : Ints w' B1 (kindL os n 1)) => by
    have := same_any A1 B1 (kindL os n 1) (kindL os n 1) c1 d1 w' x y
    rw [show (kindL os n 1).length = os.length from HLn.out 1, show sameB (kindL os n 1) (kindL os n 1) = true by simp [sameB]] at this
    exact this)
  have HS2 := hid (fun (w' : World) (x : Ints w' A2 (kindL os n 2)) (y : Ints w' B2 (kindL os n 2)) => by
    have := same_any A2 B2 (kindL os n 2) (kindL os n 2) c2 d2 w' x y
    rw [show (kindL os n 2).length = os.length from HLn.out 2, show sameB (kindL os n 2) (kindL os n 2) = true by simp [sameB]] at this
    exact this)
  go_wp2
  generalize hwb : (w2.alloc (.cells #[.slice B0 os.length d0, .slice B1 os.length d1, .slice B2 os.length d2] 57)) = wb at *
  clear hwb
  go_loopw [9] (fun i wr => ∃ j : Nat, j ≤ 3 ∧ i = .int .i64 (j : Int) ∧ Below wb.heap.size wb wr) (fun i _ => 3 - (intOf i).toNat)
  case atStart => exact ⟨0, by omega, rfl, Below.refl _ _⟩
  case round =>
    obtain ⟨j, hj, rfl, hB⟩ := hrel
    have hsb := hB.size
    obtain ⟨a0, a1, a2, _, _, _⟩ := R1.out.keep hB
    obtain ⟨b0, b1, b2, _, _, _⟩ := R2.out.keep hB
    have X0 := I0.out.below hB
    have X1 := I1.out.below hB
    have X2 := I2.out.below hB
    have Y0 := J0.out.below hB
    have Y1 := J1.out.below hB
    have Y2 := J2.out.below hB
    have hc : j = 0 ∨ j = 1 ∨ j = 2 ∨ j = 3 := by omega
    rcases hc with rfl | rfl | rfl | rfl
    · go_wp2
      go_quiet ((go_at_call 23; exact Calls.quiet_of ((HS0.out _ (X0.drewN _) (Y0.drewN _)).mono fun _ _ h => ⟨h.2, h.1⟩)))
      have q : Below wb.heap.size wb (wr.drewN nq) := below_dn hB _
      go_wp2
      go_roundw
      case rel => exact ⟨1, by omega, rfl, q⟩
      case measure => simp [intOf]
    · go_wp2
      go_quiet ((go_at_call 23; exact Calls.quiet_of ((HS1.out _ (X1.drewN _) (Y1.drewN _)).mono fun _ _ h => ⟨h.2, h.1⟩)))
      have q : Below wb.heap.size wb (wr.drewN nq) := below_dn hB _
      go_wp2
      go_roundw
      case rel => exact ⟨2, by omega, rfl, q⟩
      case measure => simp [intOf]
    · go_wp2
      go_quiet ((go_at_call 23; exact Calls.quiet_of ((HS2.out _ (X2.drewN _) (Y2.drewN _)).mono fun _ _ h => ⟨h.2, h.1⟩)))
      have q : Below wb.heap.size wb (wr.drewN nq) := below_dn hB _
      go_wp2
      go_roundw
      case rel => exact ⟨3, by omega, rfl, q⟩
      case measure => simp [intOf]
    · have p3 := p2.trans (hB.mono p2.size)
      clear b0 b1 b2 Y0 Y1 Y2 X0 X1 X2 a0 a1 a2
      have R3 := hid (R1.out.keep hB)
      have K0 := hid (I0.out.below hB)
      have K2 := hid (I2.out.below hB)
      go_wp2_with fail
      refine (HTo.out _ p3).mono ?_
      rintro e w' ⟨rfl, rfl⟩
      generalize hS : sumL os = S at *
      go_wp2
      obtain ⟨wo, rfl⟩ : ∃ wo : World, wo = wr := ⟨_, rfl⟩
      go_loopw [11] (fun i wr => ∃ j : Nat, j ≤ os.length ∧ i = .int .i64 (j : Int) ∧ Below wo.heap.size wo wr) (fun i _ => os.length - (intOf i).toNat)
      case atStart => exact ⟨0, by omega, rfl, Below.refl _ _⟩
      case round =>
        obtain ⟨k, hk, rfl, hB2⟩ := hrel
        obtain ⟨a0, a1, a2, _, _, _⟩ := R3.out.keep hB2
        by_cases hlt : k < os.length
        · rcases (K0.out.below hB2).at_ with e | ⟨x0, y0, rfl, hc0⟩
          · have := HLn.out 0; unfold kindL at e; rw [e] at this; simp at this; omega
          rcases (K2.out.below hB2).at_ with e | ⟨x2, y2, rfl, hc2⟩
          · have := HLn.out 2; unfold kindL at e; rw [e] at this; simp at this; omega
          rcases (HO.out.below (p3.trans (hB2.mono p3.size))).at_ with e | ⟨xo, yo, rfl, hco⟩
          · rw [e] at hlt; simp at hlt
          have e0 := hc0 k (by have := HLn.out 0; unfold kindL; omega)
          have e2 := hc2 k (by have := HLn.out 2; unfold kindL; omega)
          have eo := hco k hlt
          have b0 := HVl.out 0 _ (getD_mem (giveL 0 os n).2 k (by have := HLn.out 0; omega))
          have b2 := HVl.out 2 _ (getD_mem (giveL 2 os n).2 k (by have := HLn.out 2; omega))
          have bo := HV1.out _ (getD_mem os k hlt)
          have hdn := HDn.out k hlt
          have hup := HUp.out k hlt
          unfold at0 at hdn hup
          unfold kindL at e0 e2
          clear hc0 hc2 hco
          generalize (giveL 0 os n).2[k]?.getD 0 = m0 at *
          generalize (giveL 2 os n).2[k]?.getD 0 = m2 at *
          generalize os[k]?.getD 0 = x at *
          have hnx := mul_bd4 (by omega : (0 : Int) ≤ n) (by omega : (n : Int) ≤ 1000) (by omega : 0 ≤ x) bo.2
          have hm2 : -8000000 ≤ (m2 - 1) * S ∧ (m2 - 1) * S ≤ 8000000000 := by
            have e1 : (m2 - 1) * S = m2 * S - S := by rw [Int.sub_mul]; omega
            have := mul_bd4 b2.1 b2.2 (by omega : 0 ≤ S) s2
            omega
          have hlt2 : (m2 - 1) * S < (n : Int) * x := by
            by_cases hp : 0 < m2
            · exact hup hp
            · have : m2 = 0 := by omega
              subst this
              omega
          clear hup
          have hqd : Int.tdiv ((n : Int) * x) S = (n : Int) * x / S := Int.tdiv_eq_ediv_of_nonneg hnx.1
          have hqb : 0 ≤ (n : Int) * x / S ∧ (n : Int) * x / S ≤ (n : Int) * x := ⟨Int.ediv_nonneg hnx.1 (by omega), Int.ediv_le_self _ hnx.1⟩
          generalize hnxe : (n : Int) * x = nx at *
          generalize nx / S = qq at *
          generalize hmse : (m2 - 1) * S = mS at *
          have hSne : S ≠ 0 := by omega
          have hw1 : IntKind.i64.wrap ((n : Int) * x) = nx := by rw [hnxe]; exact IntWalk.i64_in _ (by omega)
          have hw2 : IntKind.i64.wrap qq = qq := IntWalk.i64_in _ (by omega)
          have hw3 : IntKind.i64.wrap (m2 - 1) = m2 - 1 := IntWalk.i64_in _ (by omega)
          have hw4 : IntKind.i64.wrap ((m2 - 1) * S) = mS := by rw [hmse]; exact IntWalk.i64_in _ (by omega)
          have ht1 : decide (m0 < qq) = false := decide_eq_false (by omega)
          have ht1' : qq ≤ m0 := by omega
          have ht2 : decide (nx ≤ mS) = false := decide_eq_false (by omega)
          have hk0 : (0 : Int) ≤ (k : Int) := Int.natCast_nonneg _
          have hk1 : (k : Int) < (os.length : Int) := by omega
          clear hnxe hmse
          go_wp2
          go_quiet (fail)
          have q : Below wo.heap.size wo (wr.drewN nq) := below_dn hB2 _
          clear hw1 hw2 hw3 hw4
          go_wp2
          go_roundw
          case rel => exact ⟨k + 1, by omega, by go_num, q⟩
          case measure => simp [intOf]; omega
        · have p4 := p3.trans (hB2.mono p3.size)
          obtain rfl : k = os.length := by omega
          go_wp2_with fail
          refine (known4_any _).mono ?_
          rintro e w8 ⟨q8, rfl⟩
          go_wp2
          go_ret
          exact ⟨p4.trans (q8.mono p4.size), rfl⟩

set_option maxHeartbeats 1000000 in
theorem total_some (a : Option Addr) (l : List Int) (cap : Nat) (w : World) (h : Ints w a l) (hl : l.length ≤ 1000) :
  Calls Try.prog 24 #[.slice a l.length cap] w (fun en w' => w = w' ∧ ∃ v : Int, en = .returned (.int .i64 v)) := by
  have HH := hid h
  clear h
  go_enter Try.func24, Try.ntmps24
  go_wp2
  go_loop [3, 4] (fun s i => ∃ (k : Nat) (v : Int), k ≤ l.length ∧ i = .int .i64 k ∧ s = .int .i64 v) (fun _ i => l.length - (intOf i).toNat)
  case atStart => exact ⟨0, 0, Nat.zero_le _, rfl, rfl⟩
  case round =>
    obtain ⟨k, v, hk, rfl, rfl⟩ := hrel
    by_cases hlt : k < l.length
    · rcases HH.out.at_ with e | ⟨b, off, rfl, hc⟩
      · rw [e] at hlt; simp at hlt
      have g := hc k hlt
      clear hc
      generalize l[k]?.getD 0 = x at *
      go_wp2
      go_round
      case rel => exact ⟨k + 1, _, by omega, by go_num, rfl⟩
      case measure => simp [intOf]; omega
    · obtain rfl : k = l.length := by omega
      go_wp2
      go_ret
      exact ⟨rfl, v, rfl⟩

set_option maxRecDepth 100000 in
set_option maxHeartbeats 8000000 in
theorem shBest_err (oa : Option Addr) (os : List Int) (oc : Nat) (n : Int) (w : World) (ho : Ints w oa os) (hl : longI os = false) (hE : bestE os n = false) :
  Calls Try.prog 14 #[.slice oa os.length oc, .int .i64 n] w (BoolR w true) := by
  have HL := hid (fun w => long4_any oa os oc w (by have := ho.len; omega))
  rw [hl] at HL
  have hl60 : os.length ≤ 60 := by simpa [longI] using hl
  have HB := hid (fun (w' : World) (hb : Below w.heap.size w w') => best_err oa os oc n w' (ho.below hb) hE)
  have HBr := hid (fun (w' : World) (hb : Below w.heap.size w w') => rbest_err oa os oc n w' (ho.below hb) hE)
  have HTo := hid (fun (w' : World) (hb : Below w.heap.size w w') => total_some oa os oc w' (ho.below hb) (by omega))
  have HSm := hid (fun w : World => show Calls Try.prog 23 #[.slice none 0 0, .slice none 0 0] w (fun en w' => (∃ n, w' = w.drewN n) ∧ en = .returned (.bool true)) from same_any none none [] [] 0 0 w ⟨by simp, .inl rfl, by simp⟩ ⟨by simp, .inl rfl, by simp⟩)
  unfold Nil3 at HB HBr
  clear hl hE ho
  go_enter Try.func14, Try.ntmps14
  go_wp2_with fail
  refine (HL.out _).mono ?_
  rintro e w' ⟨rfl, rfl⟩
  go_wp2_with fail
  refine (HB.out _ (Below.refl _ _)).mono ?_
  rintro e w1 ⟨z1, rfl⟩
  have m1 := (Below.refl w1.heap.size w1).alloc (Nat.le_refl _) (.cells #[.slice none 0 0, .slice none 0 0, .slice none 0 0] 57)
  have R1 := hid (show Row3 (w1.alloc (.cells #[.slice none 0 0, .slice none 0 0, .slice none 0 0] 57)) w1.heap.size (.slice none 0 0) (.slice none 0 0) (.slice none 0 0) from ⟨by go_simp, by go_simp, by go_simp, by go_simp, by go_simp, by go_simp⟩)
  have p1 := z1.trans (m1.mono z1.size)
  clear z1 m1
  go_wp2_with fail
  refine (HBr.out _ p1).mono ?_
  rintro e w2 ⟨z2, rfl⟩
  have m2 := (Below.refl w2.heap.size w2).alloc (Nat.le_refl _) (.cells #[.slice none 0 0, .slice none 0 0, .slice none 0 0] 57)
  have R2 := hid (show Row3 (w2.alloc (.cells #[.slice none 0 0, .slice none 0 0, .slice none 0 0] 57)) w2.heap.size (.slice none 0 0) (.slice none 0 0) (.slice none 0 0) from ⟨by go_simp, by go_simp, by go_simp, by go_simp, by go_simp, by go_simp⟩)
  have R1 := hid ((R1.out.keep z2).keep m2)
  have p2 := p1.trans ((z2.trans (m2.mono z2.size)).mono p1.size)
  clear z2 m2
  go_wp2
  generalize hwb : (w2.alloc (.cells #[.slice none 0 0, .slice none 0 0, .slice none 0 0] 57)) = wb at *
  clear hwb
  go_loopw [9] (fun i wr => ∃ j : Nat, j ≤ 3 ∧ i = .int .i64 (j : Int) ∧ Below wb.heap.size wb wr) (fun i _ => 3 - (intOf i).toNat)
  case atStart => exact ⟨0, by omega, rfl, Below.refl _ _⟩
  case round =>
    obtain ⟨j, hj, rfl, hB⟩ := hrel
    have hsb := hB.size
    obtain ⟨a0, a1, a2, _, _, _⟩ := R1.out.keep hB
    obtain ⟨b0, b1, b2, _, _, _⟩ := R2.out.keep hB
    have hc : j = 0 ∨ j = 1 ∨ j = 2 ∨ j = 3 := by omega
    rcases hc with rfl | rfl | rfl | rfl
    · go_wp2
      go_quiet ((go_at_call 23; exact Calls.quiet_of ((HSm.out _).mono fun _ _ h => ⟨h.2, h.1⟩)))
      have q : Below wb.heap.size wb (wr.drewN nq) := below_dn hB _
      go_wp2
      go_roundw
      case rel => exact ⟨1, by omega, rfl, q⟩
      case measure => simp [intOf]
    · go_wp2
      go_quiet ((go_at_call 23; exact Calls.quiet_of ((HSm.out _).mono fun _ _ h => ⟨h.2, h.1⟩)))
      have q : Below wb.heap.size wb (wr.drewN nq) := below_dn hB _
      go_wp2
      go_roundw
      case rel => exact ⟨2, by omega, rfl, q⟩
      case measure => simp [intOf]
    · go_wp2
      go_quiet ((go_at_call 23; exact Calls.quiet_of ((HSm.out _).mono fun _ _ h => ⟨h.2, h.1⟩)))
      have q : Below wb.heap.size wb (wr.drewN nq) := below_dn hB _
      go_wp2
      go_roundw
      case rel => exact ⟨3, by omega, rfl, q⟩
      case measure => simp [intOf]
    · have p3 := p2.trans (hB.mono p2.size)
      go_wp2_with fail
      refine (HTo.out _ p3).mono ?_
      rintro e w' ⟨rfl, v, rfl⟩
      go_wp2
      refine wp_loop_rounds 1 ?_
      rw [rounds_succ]
      go_wp2_with fail
      refine (known4_any _).mono ?_
      rintro e w8 ⟨q8, rfl⟩
      go_wp2
      go_ret
      exact ⟨p3.trans (q8.mono p3.size), rfl⟩

set_option maxRecDepth 100000 in
set_option maxHeartbeats 4000000 in
theorem shareBest_walk (oa : Option Addr) (os : List Int) (oc : Nat) (n : Int) (w : World) (h1 : os.length ≤ 9223372036854775807) (hT : os.length ≤ 140737488355328 → Ints w oa os) :
  Calls Try.prog 14 #[.slice oa os.length oc, .int .i64 n] w (BoolR w true) := by
  cases hl : longI os with
  | true =>
    have HL := hid (fun w => long4_any oa os oc w h1)
    rw [hl] at HL
    clear hl hT
    go_enter Try.func14, Try.ntmps14
    go_wp2_with fail
    refine (HL.out _).mono ?_
    rintro e w' ⟨rfl, rfl⟩
    go_wp2_with fail
    refine (known4_any _).mono ?_
    rintro e w2 ⟨q2, rfl⟩
    go_wp2
    go_ret
    exact ⟨q2, rfl⟩
  | false =>
    have hl60 : os.length ≤ 60 := by simpa [longI] using hl
    have ho := hT (by omega)
    cases hE : bestE os n with
    | false => exact shBest_err oa os oc n w ho hl hE
    | true =>
      have h : okO os = true ∧ inW n 0 1000 = true := by simpa [bestE] using hE
      have hn : 0 ≤ n ∧ n ≤ 1000 := by simpa [inW] using h.2
      obtain ⟨m, rfl⟩ := Int.eq_ofNat_of_zero_le hn.1
      exact shBest_ok oa os oc m w ho hl h.1 (by omega)
end Go.Proofs.Ytegeojlmpjepjaa
