/- Shortest of package dish. -/
import Derived.Test.YtdgleicpcjfnoaaProvb
set_option linter.unusedVariables false
set_option linter.unusedSimpArgs false
namespace Go.Proofs.Ytdgleicpcjfnoaa
open Go.RowKit

def shortA (P : Int) (its : List ItemL) (rls : List RuleL) (item prop : Int) (m : Nat) (b : Bool) (e : Int) : Prop :=
  if propE P its rls item prop ≠ 0 then m = 0 ∧ b = false ∧ e = propE P its rls item prop
  else e = 0 ∧ m = bestTo (selfD rls (propsL (ownL its item.toNat))) prop.toNat (2 ^ P.toNat) ∧ b = decide (0 < m)
def ShortR (w : World) (P : Int) (its : List ItemL) (rls : List RuleL) (item prop : Int) (en : Ending) (w' : World) : Prop :=
  Below w.heap.size w w' ∧ ∃ (m : Nat) (b : Bool) (e : Int), en = .returned (.tuple #[.int .i64 (m : Int), .bool b, .int .i64 e]) ∧ shortA P its rls item prop m b e
theorem best_prov {rls : List RuleL} (ho : RulesOk rls) (O P p : Nat) (hP : P ≤ 10) : bestTo (fun i => (provTo rls O (2 ^ P)).testBit i) p (2 ^ P) = bestTo (selfD rls O) p (2 ^ P) := by
  refine bestTo_congr p _ (fun i hi => ?_)
  have h2 := Nat.pow_le_pow_right (n := 2) (by omega) hP
  have h10 : i < 2 ^ 10 := by omega
  show (provTo rls O (2 ^ P)).testBit i = selfD rls O i
  rw [Bool.eq_iff_iff, prov_iff rls O P (by omega) i hi, reach_iff ho h10]
theorem bestTo_bd (Q : Nat → Bool) (p k : Nat) : bestTo Q p k ≤ 10 := by
  induction k with
  | zero => simp [bestTo]
  | succ k ih =>
    rw [bestTo]
    split
    · exact cntBits_le _ _
    · exact ih
theorem best_no {Q : Nat → Bool} {p k : Nat} (h : (Q k && k.testBit p) = false ∨ (0 < bestTo Q p k ∧ bestTo Q p k ≤ cntBits k 10)) : bestTo Q p (k + 1) = bestTo Q p k := by
  rw [bestTo, if_neg]
  rcases h with h | ⟨h1, h2⟩
  · rw [h]; simp
  · simp; intro _ _; omega
theorem best_yes {Q : Nat → Bool} {p k : Nat} (h : (Q k && k.testBit p) = true) (h2 : bestTo Q p k = 0 ∨ cntBits k 10 < bestTo Q p k) : bestTo Q p (k + 1) = cntBits k 10 := by
  rw [bestTo, if_pos]
  rw [h, Bool.true_and, Bool.or_eq_true, decide_eq_true_iff, decide_eq_true_iff]
  exact h2

set_option maxRecDepth 100000 in
set_option maxHeartbeats 4000000 in
theorem shortest_any (P : Int) (ia : Option Addr) (its : List ItemL) (ic : Nat) (ra : Option Addr) (rls : List RuleL) (rc : Nat) (item prop : Int) (w : World) (h : BookAt w P ia its ra rls) :
  Calls Try.prog 32 #[.agg #[.int .i64 P, .slice ia its.length ic, .slice ra rls.length rc], .int .i64 item, .int .i64 prop] w (ShortR w P its rls item prop) := by
  have S0 := ValS.made w P (.slice ia its.length ic) (.slice ra rls.length rc)
  have HC := hid (checkProp_any P ia its ic ra rls rc item prop _ (h.below S0.below))
  have HS0 := hid S0
  clear S0
  by_cases h0 : propE P its rls item prop = 0
  · obtain ⟨hv, ⟨hi0, hi1⟩, hp0, hp1⟩ := propE_ok h0
    obtain ⟨v0, v1, v2, v3, v4, v5⟩ := validB_ok hv
    have HX0 := hid (fun (m : Nat) => show m = bestTo (selfD rls (propsL (ownL its item.toNat))) prop.toNat (2 ^ P.toNat) → shortA P its rls item prop m (decide (0 < m)) 0 from fun hm => by unfold shortA; rw [if_neg (by simp [h0])]; exact ⟨rfl, hm, rfl⟩)
    rw [h0] at HC
    obtain ⟨n, rfl⟩ := Int.eq_ofNat_of_zero_le hi0
    obtain ⟨m, rfl⟩ := Int.eq_ofNat_of_zero_le hp0
    obtain ⟨p, rfl⟩ := Int.eq_ofNat_of_zero_le v0
    have hn : n < its.length := by omega
    have hm : m < 64 := by omega
    have hm10 : m < 10 := by omega
    have hp10 : p ≤ 10 := by omega
    have HX := hid (fun (k : Nat) => show k = bestTo (selfD rls (propsL (ownL its n))) m (2 ^ p) → shortA (p : Int) its rls (n : Int) (m : Int) k (decide (0 < k)) 0 from fun h => HX0.out k h)
    have HBp := hid (best_prov ((rulesP_of v5).ok hp10) (propsL (ownL its n)) p m hp10)
    have HPv := hid (fun (w' : World) (hb : Below w.heap.size w w') => provb_any p ia its ic ra rls rc n w' (h.below hb) hv hn)
    have hN2 : 2 ^ p ≤ 1024 := Nat.pow_le_pow_right (n := 2) (by omega) hp10
    clear h hv v4 v5 h0 hi0 hp0 HX0 hi1 hp1
    rw [← HBp.out] at HX
    clear HBp
    generalize propsL (ownL its n) = O at *
    generalize provTo rls O (2 ^ p) = IS at *
    generalize 2 ^ p = N at *
    go_enter Try.func32, Try.ntmps32
    go_wp2_with fail
    refine HC.out.mono ?_
    rintro e w1 ⟨q1, rfl⟩
    have HS1 := hid (HS0.out.keep q1)
    obtain ⟨a0, a1, a2, _⟩ := id HS1.out
    clear q1 HC HS0
    go_wp2_with fail
    refine (HPv.out _ HS1.out.below).mono ?_
    rintro e w2 ⟨q2, A, c, rfl, hB, _⟩
    have HB2 := hid (HS1.out.keep q2).below
    have HIs := hid hB
    clear q2 HPv HS1 hB a0 a1 a2
    go_wp2
    go_loop [10, 11, 26] (fun l f i => ∃ k : Nat, k ≤ N ∧ i = .int .i64 k ∧ l = .int .i64 (bestTo (fun i => IS.testBit i) m k) ∧ f = .bool (decide (0 < bestTo (fun i => IS.testBit i) m k))) (fun _ _ i => N - (intOf i).toNat)
    case atStart => exact ⟨0, Nat.zero_le _, rfl, rfl, rfl⟩
    case round =>
      obtain ⟨k, hk, rfl, rfl, rfl⟩ := hrel
      by_cases hlt : k < N
      · have hbd := bestTo_bd (fun i => IS.testBit i) m k
        have HNo := hid (@best_no (fun i => IS.testBit i) m k)
        have HYes := hid (@best_yes (fun i => IS.testBit i) m k)
        have hcb := cntBits_le k 10
        rcases HIs.out.at_ with e | ⟨b, off, rfl, hc⟩
        · omega
        have c0 := hc k hlt
        clear hc
        have hk0 : (0 : Int) ≤ (k : Int) := by omega
        have hk1 : (k : Int) < (N : Int) := by omega
        have HHa := hid (fun w => has_mask k m w (by omega) hm)
        have HSz := hid (fun w => size_mask k w (by omega))
        have HCp := hid (show k.testBit m = true → 0 < cntBits k 10 from fun h => cnt_pos hm10 h)
        generalize bestTo (fun i => IS.testBit i) m k = B at *
        generalize cntBits k 10 = C at *
        cases hq : IS.testBit k with
        | false =>
          have HE := hid (HNo.out (.inl (by show (IS.testBit k && k.testBit m) = false; rw [hq]; rfl)))
          rw [hq] at c0
          clear hq HNo HYes
          go_wp2
          go_round
          case rel => exact ⟨k + 1, by omega, by go_num, by rw [HE.out], by rw [HE.out]⟩
          case measure => simp [intOf]; omega
        | true =>
          cases hb : k.testBit m with
          | false =>
            have HE := hid (HNo.out (.inl (by show (IS.testBit k && k.testBit m) = false; rw [hb, Bool.and_false])))
            rw [hq] at c0
            rw [hb] at HHa
            clear hq hb HNo HYes
            go_wp2_with fail
            refine (HHa.out _).mono ?_
            rintro e w' ⟨rfl, rfl⟩
            go_wp2
            go_round
            case rel => exact ⟨k + 1, by omega, by go_num, by rw [HE.out], by rw [HE.out]⟩
            case measure => simp [intOf]; omega
          | true =>
            have hqb : (IS.testBit k && k.testBit m) = true := by rw [hq, hb]; rfl
            rw [hq] at c0
            rw [hb] at HHa
            have hC0 := HCp.out hb
            have hC1 : decide (0 < C) = true := decide_eq_true hC0
            by_cases hB0 : 0 < B
            · have hB1 : decide (0 < B) = true := decide_eq_true hB0
              by_cases hcB : C < B
              · have HE := hid (HYes.out hqb (.inr hcB))
                have hcI : (C : Int) < (B : Int) := by omega
                clear hqb hq hb HNo HYes hC0 hB0 hcB HCp
                go_wp2_with fail
                refine (HHa.out _).mono ?_
                rintro e w' ⟨rfl, rfl⟩
                go_wp2_with fail
                refine (HSz.out _).mono ?_
                rintro e w' ⟨rfl, rfl⟩
                go_wp2_with fail
                refine (HSz.out _).mono ?_
                rintro e w' ⟨rfl, rfl⟩
                go_wp2
                go_round
                case rel => exact ⟨k + 1, by omega, by go_num, by rw [HE.out], by rw [HE.out, hC1]⟩
                case measure => simp [intOf]; omega
              · have HE := hid (HNo.out (.inr ⟨hB0, by omega⟩))
                have hcI : ¬ (C : Int) < (B : Int) := by omega
                clear hqb hq hb HNo HYes hC0 hB0 hcB HCp
                go_wp2_with fail
                refine (HHa.out _).mono ?_
                rintro e w' ⟨rfl, rfl⟩
                go_wp2_with fail
                refine (HSz.out _).mono ?_
                rintro e w' ⟨rfl, rfl⟩
                go_wp2
                go_round
                case rel => exact ⟨k + 1, by omega, by go_num, by rw [HE.out], by rw [HE.out, hB1]⟩
                case measure => simp [intOf]; omega
            · have hB1 : decide (0 < B) = false := decide_eq_false hB0
              have HE := hid (HYes.out hqb (.inl (by omega)))
              clear hqb hq hb HNo HYes hC0 hB0 HCp
              go_wp2_with fail
              refine (HHa.out _).mono ?_
              rintro e w' ⟨rfl, rfl⟩
              go_wp2_with fail
              refine (HSz.out _).mono ?_
              rintro e w' ⟨rfl, rfl⟩
              go_wp2
              go_round
              case rel => exact ⟨k + 1, by omega, by go_num, by rw [HE.out], by rw [HE.out, hC1]⟩
              case measure => simp [intOf]; omega
      · obtain rfl : k = N := by omega
        have HF := hid (HX.out _ rfl)
        generalize bestTo (fun i => IS.testBit i) m k = B at *
        generalize hfd : decide (0 < B) = fd at *
        have HFd := hid hfd
        clear hfd
        go_wp2
        refine bodyPost_ret (v := .tuple #[.int .i64 (B : Int), .bool fd, .int .i64 0]) (by simp [results, Try.results32, go_sem]) rfl ⟨HB2.out, B, fd, 0, rfl, HF.out⟩
  · have HA := hid (show shortA P its rls item prop 0 false (propE P its rls item prop) by unfold shortA; rw [if_pos h0]; exact ⟨rfl, rfl, rfl⟩)
    have h0' : (propE P its rls item prop != 0) = true := by simp [h0]
    clear h0 h
    generalize propE P its rls item prop = x at *
    go_enter Try.func32, Try.ntmps32
    go_wp2_with fail
    refine HC.out.mono ?_
    rintro e w1 ⟨q1, rfl⟩
    have HS1 := hid (HS0.out.keep q1)
    go_wp2
    refine bodyPost_ret (v := .tuple #[.int .i64 0, .bool false, .int .i64 x]) (by simp [results, Try.results32, go_sem]) rfl ⟨HS1.out.below, 0, false, x, rfl, HA.out⟩
end Go.Proofs.Ytdgleicpcjfnoaa
