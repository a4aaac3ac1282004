/- The law DishCloses: its walk. -/
import Derived.Test.YtongejajkifccaaClosureE
import Derived.Test.YtongejajkifccaaKnownD
import Derived.Test.YtongejajkifccaaLongB
set_option linter.unusedVariables false
namespace Go.Proofs.Ytongejajkifccaa
open Go.RowKit

set_option maxRecDepth 100000 in
set_option maxHeartbeats 8000000 in
theorem dishCloses_walk (P : Int) (ia : Option Addr) (its : List ItemL) (ic : Nat) (ra : Option Addr) (rls : List RuleL) (rc : Nat) (a : Option Addr) (ps : List Int) (cap : Nat) (w : World) (h : BookRaw w P ia its ra rls) (h1 : ps.length ≤ 9223372036854775807) (hT : ps.length ≤ 140737488355328 → Ints w a ps) :
  Calls Try.prog 5 #[.agg #[.int .i64 P, .slice ia its.length ic, .slice ra rls.length rc], .slice a ps.length cap] w (BoolR w true) := by
  have S0 := ValS.made w P (.slice ia its.length ic) (.slice ra rls.length rc)
  have hRaw : BookRaw (w.alloc (.cells #[.int .i64 P, .slice ia its.length ic, .slice ra rls.length rc] 25)) P ia its ra rls := ⟨h.lo, h.hi, h.li, h.lr, h.items.below S0.below, h.rules.below S0.below⟩
  have HLg := hid (longBk_any P ia its ic ra rls rc _ hRaw)
  have HS0 := hid S0
  clear S0 hRaw
  by_cases hq : longBk its rls = true ∨ 60 < ps.length
  · by_cases hb : longBk its rls = true
    · rw [hb] at HLg
      clear hq hb
      go_enter Try.func5, Try.ntmps5
      go_wp2_with fail
      refine HLg.out.mono ?_
      rintro e w1 ⟨q1, rfl⟩
      have hS1 := HS0.out.keep q1
      go_wp2_with fail
      refine (knownD_any _).mono ?_
      rintro e w2 ⟨q2, rfl⟩
      go_wp2
      go_ret
      exact ⟨(hS1.keep q2).below, rfl⟩
    · have h6 : (60 : Int) < (ps.length : Int) := by have := hq.resolve_left hb; omega
      rw [Bool.not_eq_true] at hb
      rw [hb] at HLg
      clear hq hb
      go_enter Try.func5, Try.ntmps5
      go_wp2_with fail
      refine HLg.out.mono ?_
      rintro e w1 ⟨q1, rfl⟩
      have hS1 := HS0.out.keep q1
      go_wp2_with fail
      refine (knownD_any _).mono ?_
      rintro e w2 ⟨q2, rfl⟩
      go_wp2
      go_ret
      exact ⟨(hS1.keep q2).below, rfl⟩
  · have hb : longBk its rls = false := by
      rw [← Bool.not_eq_true]; exact fun hh => hq (.inl hh)
    have h6 : (ps.length : Int) ≤ 60 := by omega
    have hBk := h.book hb
    have hI := hT (by omega)
    rw [hb] at HLg
    have HC := hid (fun (w' : World) (hb : Below w.heap.size w w') => closureE_any P ia its ic ra rls rc a ps cap w' (hBk.below hb) (hI.below hb))
    have HR := hid (fun (w' : World) (hb : Below w.heap.size w w') => rclosure_any P ia its ic ra rls rc a ps cap w' (hBk.below hb) (hI.below hb))
    have HC2 := hid (fun (w' : World) (hb : Below w.heap.size w w') (A : Option Addr) (c : Nat) (hx : Ints w' A (closureL P its rls ps).1) => closureE_any P ia its ic ra rls rc A (closureL P its rls ps).1 c w' (hBk.below hb) hx)
    have HI := hid hI
    have hlen := closureL_len P its rls ps
    have hbd := closureL_bd P its rls ps
    have HAg := hid (fun (h : (closureL P its rls ps).2 = 0) => closureL_again h)
    have HHas := hid (fun (h : (closureL P its rls ps).2 = 0) => closureL_has h)
    clear hq hb hBk hT h hI
    generalize hcl : closureL P its rls ps = cl at *
    clear hcl
    obtain ⟨ms, er⟩ := cl
    dsimp only at hlen hbd HC2 HAg HHas
    have hbe : (er != er) = false := by simp
    go_enter Try.func5, Try.ntmps5
    go_wp2_with fail
    refine HLg.out.mono ?_
    rintro e w1 ⟨q1, rfl⟩
    have HS1 := hid (HS0.out.keep q1)
    have a0 := HS1.out.1
    have a1 := HS1.out.2.1
    have a2 := HS1.out.2.2.1
    clear q1 HLg HS0
    go_wp2_with fail
    refine (HC.out _ HS1.out.below).mono ?_
    rintro e w2 ⟨q2, A, c, rfl, o2⟩
    have HS2 := hid (HS1.out.keep q2)
    have a0 := HS2.out.1
    have a1 := HS2.out.2.1
    have a2 := HS2.out.2.2.1
    clear q2 HC HS1
    obtain ⟨_, _, hv, i2⟩ := o2.ints (by dsimp only; omega) (fun x hx => by have := hbd x hx; omega)
    cases hv
    dsimp only at i2 ⊢
    clear o2
    go_wp2_with fail
    refine (HR.out _ HS2.out.below).mono ?_
    rintro e w3 ⟨q3, A3, c3, rfl, o3⟩
    have HS3 := hid (HS2.out.keep q3)
    have a0 := HS3.out.1
    have a1 := HS3.out.2.1
    have a2 := HS3.out.2.2.1
    obtain ⟨_, _, hv, i3⟩ := o3.ints (by dsimp only; omega) (fun x hx => by have := hbd x hx; omega)
    cases hv
    dsimp only at i3 ⊢
    have i2 := i2.below q3
    clear o3 q3 HR HS2
    go_wp2_with fail
    refine (same_any _ _ _ _ _ _ _ i2 i3).mono ?_
    rintro e w4 ⟨⟨n, hw4⟩, rfl⟩
    have q4 : Below w3.heap.size w3 w4 := by rw [hw4]; exact below_drewN (Below.refl _ _) _
    have HS4 := hid (HS3.out.keep q4)
    have a0 := HS4.out.1
    have a1 := HS4.out.2.1
    have a2 := HS4.out.2.2.1
    have i2 := i2.below q4
    rw [show sameB ms ms = true by simp [sameB]]
    clear hw4 q4 HS3 i3
    by_cases hz : er = 0
    · subst hz
      have HAg2 := HAg.out rfl
      rw [HAg2] at HC2
      have HHas2 := hid (HHas.out rfl)
      clear HAg HHas HAg2
      have HB := hid hbd
      have HI4 := hid (HI.out.below HS4.out.below)
      clear hbd
      go_wp2
      go_loop [9] (fun i => ∃ k : Nat, k ≤ ps.length ∧ i = .int .i64 k) (fun i => ps.length - (intOf i).toNat)
      case atStart => exact ⟨0, Nat.zero_le _, rfl⟩
      case round =>
        obtain ⟨k, hk, rfl⟩ := hrel
        by_cases hlt : k < ps.length
        · rcases HI4.out.at_ with e | ⟨b, off, rfl, hc⟩
          · rw [e] at hlt; simp at hlt
          have c0 := hc k hlt
          have hm := HHas2.out _ (getD_mem ps k hlt)
          clear hc
          generalize ps[k]?.getD 0 = x at *
          go_wp2_with fail
          refine (has_any _ _ _ _ _ i2).mono ?_
          rintro e w' ⟨rfl, rfl⟩
          rw [hm]
          clear hm
          go_wp2
          go_round
          case rel => exact ⟨k + 1, by omega, by go_num⟩
          case measure => simp [intOf]; omega
        · have hd : True := trivial
          go_wp2_with fail
          refine (HC2.out _ HS4.out.below _ _ i2).mono ?_
          rintro e w5 ⟨q5, A5, c5, rfl, o5⟩
          have HS5 := hid (HS4.out.keep q5)
          obtain ⟨_, _, hv, i5⟩ := o5.ints (by dsimp only; omega) (fun x hx => by have := HB.out x hx; omega)
          cases hv
          dsimp only at i5 ⊢
          have i2 := i2.below q5
          clear o5 q5
          go_wp2_with fail
          refine (same_any _ _ _ _ _ _ _ i5 i2).mono ?_
          rintro e w6 ⟨⟨n, hw6⟩, rfl⟩
          have q6 : Below w5.heap.size w5 w6 := by rw [hw6]; exact below_drewN (Below.refl _ _) _
          have HS6 := hid (HS5.out.keep q6)
          rw [show sameB ms ms = true by simp [sameB]]
          clear hw6 q6
          go_wp2_with fail
          refine (knownD_any _).mono ?_
          rintro e w7 ⟨q7, rfl⟩
          go_wp2
          go_ret
          exact ⟨(HS6.out.keep q7).below, rfl⟩
    · have hz' : (er != 0) = true := by simp [hz]
      clear hz HAg HHas
      go_wp2_with fail
      refine (knownD_any _).mono ?_
      rintro e w5 ⟨q5, rfl⟩
      go_wp2
      go_ret
      exact ⟨(HS4.out.keep q5).below, rfl⟩
end Go.Proofs.Ytongejajkifccaa
