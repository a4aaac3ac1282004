/- The law DishProofs: its walk. -/
import Derived.Test.YtdgleicpcjfnoaaProofS
import Derived.Test.YtdgleicpcjfnoaaFollows
import Derived.Test.YtdgleicpcjfnoaaRPub
import Derived.Test.YtdgleicpcjfnoaaProofN
import Derived.Test.YtdgleicpcjfnoaaKnownD
import Derived.Test.YtdgleicpcjfnoaaLongB
set_option linter.unusedVariables false
set_option linter.unusedSimpArgs false
namespace Go.Proofs.Ytdgleicpcjfnoaa
open Go.RowKit

theorem lastP_mem {l : List StepL} {p : Int} (h : lastP l = p) (hp : 0 ≤ p) : ∃ s ∈ l, s.1 = p := by
  by_cases hl : 0 < l.length
  · rw [lastP_get l hl, List.getElem?_eq_getElem (by omega)] at h
    exact ⟨_, List.getElem_mem (by omega), h⟩
  · have : l = [] := List.eq_nil_of_length_eq_zero (by omega)
    subst this
    rw [lastP_nil] at h
    omega
theorem label_facts {P : Int} {its : List ItemL} {rls : List RuleL} {item : Int} (h : checkIt P its rls item = 0) : ∃ p n : Nat, P = p ∧ item = n ∧ p ≤ 10 ∧ n < its.length ∧ its.length ≤ 20 ∧ itemsE (p : Int) 0 its = 0 ∧ RulesP p rls ∧ RulesOk rls ∧ (∀ i, (contL its n).testBit i = true → i < its.length) ∧ propsL (ownL its n) < 2 ^ p ∧ propsL (ownL its n) < 2 ^ 10 ∧ labelL P its rls item = (bitsTo (labM its rls n) 64, 0) := by
  obtain ⟨hv, hi0, hi1⟩ := checkIt_ok h
  obtain ⟨v0, v1, v2, v3, v4, v5⟩ := validB_ok hv
  obtain ⟨p, rfl⟩ := Int.eq_ofNat_of_zero_le v0
  obtain ⟨n, rfl⟩ := Int.eq_ofNat_of_zero_le hi0
  have hn : n < its.length := by omega
  have hp : p ≤ 10 := by omega
  have hR := rulesP_of v5
  have hb := contL_bits (p : Int) its v4 n hn
  have ho := own_lt v4 n hb (by omega)
  refine ⟨p, n, rfl, rfl, hp, hn, v2, v4, hR, hR.ok hp, hb, ho, Nat.lt_of_lt_of_le ho (Nat.pow_le_pow_right (by omega) hp), ?_⟩
  unfold labelL
  rw [if_neg (by simp [h])]
  rfl
theorem proof_in {P : Int} {its : List ItemL} {rls : List RuleL} {item prop : Int} {l : List StepL} (h : proofE P its rls item prop l = 0) : (labelL P its rls item).2 = 0 ∧ memB prop (labelL P its rls item).1 = true := by
  unfold proofE at h
  split at h
  · rename_i h1; exact absurd h h1
  · rename_i h1
    split at h
    · cases h
    · split at h
      · cases h
      · rename_i hs
        split at h
        · rename_i hl
          have h1 : propE P its rls item prop = 0 := by simpa using h1
          obtain ⟨hv, ⟨hi0, hi1⟩, hp0, hp1⟩ := propE_ok h1
          have hc : checkIt P its rls item = 0 := by
            unfold propE at h1
            split at h1
            · assumption
            · rename_i h2; exact absurd h1 h2
          obtain ⟨p, n, rfl, rfl, hp, hn, hl20, v4, hR, hRo, hb, ho, ho10, he⟩ := label_facts hc
          rw [he]
          refine ⟨rfl, ?_⟩
          obtain ⟨s, hsm, hsp⟩ := lastP_mem hl hp0
          rw [Int.toNat_natCast] at hs
          have := proof_label hRo n (fun i hi => by have := hb i hi; omega) ho10 (by simpa using hs) hsm
          unfold memB
          rw [decide_eq_true_iff, mem_bitsTo]
          rw [hsp] at this
          exact ⟨prop.toNat, by omega, by omega, this⟩
        · cases h

theorem BrS.ask (w : World) (P : Int) (i r x y : Value) : BrS w P i r x y ((w.alloc (.cells #[.int .i64 P, i, r] 25)).alloc (.cells #[x, y] 41)) :=
  ⟨by go_simp, by go_simp, by go_simp, by go_simp, by go_simp, ((Below.refl _ _).alloc (Nat.le_refl _) _).alloc (by simp) _⟩

set_option maxRecDepth 100000 in
set_option maxHeartbeats 8000000 in
theorem dishProofs_walk (P : Int) (ia : Option Addr) (its : List ItemL) (ic : Nat) (ra : Option Addr) (rls : List RuleL) (rc : Nat) (item prop : Int) (a : Option Addr) (l : List StepL) (cap : Nat) (w : World) (h : BookRaw w P ia its ra rls) (h1 : l.length ≤ 9223372036854775807 ∧ l.length ≤ cap) (hT : l.length ≤ 140737488355328 → StepsAt w a l) :
  Calls Try.prog 6 #[.agg #[.int .i64 P, .slice ia its.length ic, .slice ra rls.length rc], .agg #[.int .i64 item, .int .i64 prop], .slice a l.length cap] w (BoolR w true) := by
  have S0 := BrS.ask w P (.slice ia its.length ic) (.slice ra rls.length rc) (.int .i64 item) (.int .i64 prop)
  have hRaw : BookRaw ((w.alloc (.cells #[.int .i64 P, .slice ia its.length ic, .slice ra rls.length rc] 25)).alloc (.cells #[.int .i64 item, .int .i64 prop] 41)) P ia its ra rls := ⟨h.lo, h.hi, h.li, h.lr, h.items.below S0.below, h.rules.below S0.below⟩
  have HLg := hid (longBk_any P ia its ic ra rls rc _ hRaw)
  have HS0 := hid S0
  obtain ⟨hl63, hcap⟩ := h1
  clear S0 hRaw
  by_cases hb : longBk its rls = true
  · rw [hb] at HLg
    clear hb
    go_enter Try.func6, Try.ntmps6
    go_wp2_with fail
    refine HLg.out.mono ?_
    rintro e w1 ⟨q1, rfl⟩
    have hS1 := HS0.out.keep q1
    go_wp2_with fail
    refine (knownD_any _).mono ?_
    rintro e w2 ⟨q2, rfl⟩
    go_wp2
    go_ret
    exact ⟨(hS1.keep q2).below, rfl⟩
  · rw [Bool.not_eq_true] at hb
    by_cases h6 : 100 < l.length
    · have h6' : (100 : Int) < (l.length : Int) := by omega
      rw [hb] at HLg
      clear hb
      go_enter Try.func6, Try.ntmps6
      go_wp2_with fail
      refine HLg.out.mono ?_
      rintro e w1 ⟨q1, rfl⟩
      have hS1 := HS0.out.keep q1
      go_wp2_with fail
      refine (knownD_any _).mono ?_
      rintro e w2 ⟨q2, rfl⟩
      go_wp2
      go_ret
      exact ⟨(hS1.keep q2).below, rfl⟩
    · have h6' : ¬ (100 : Int) < (l.length : Int) := by omega
      have hBk := h.book hb
      have hSt := hT (by omega)
      rw [hb] at HLg
      have HC := hid (fun (w' : World) (hb : Below w.heap.size w w') => checkProof_any P ia its ic ra rls rc item prop a l cap w' (hBk.below hb) (hSt.below hb) hcap)
      have HRC := hid (fun (w' : World) (hb : Below w.heap.size w w') => rcheckProof_any P ia its ic ra rls rc item prop a l cap w' (hBk.below hb) (hSt.below hb))
      have HL := hid (fun (w' : World) (hb : Below w.heap.size w w') => labelE_any P ia its ic ra rls rc item w' (hBk.below hb))
      have hll := labelL_len P its rls item
      have HBl := hid (labelL_bd P its rls item)
      have HIn := hid (fun (h : proofE P its rls item prop l = 0) => proof_in h)
      clear hb hBk h hSt hT
      generalize labelL P its rls item = lb at *
      obtain ⟨ls, el⟩ := lb
      dsimp only at hll HBl HIn
      generalize proofE P its rls item prop l = pe at *
      have hpe : (pe != pe) = false := by simp
      go_enter Try.func6, Try.ntmps6
      go_wp2_with fail
      refine HLg.out.mono ?_
      rintro e w1 ⟨q1, rfl⟩
      have HS1 := hid (HS0.out.keep q1)
      obtain ⟨a0, a1, a2, a3, a4, _⟩ := id HS1.out
      clear q1 HLg HS0
      go_wp2_with fail
      refine (HC.out _ HS1.out.below).mono ?_
      rintro e w2 ⟨q2, rfl⟩
      have HS2 := hid (HS1.out.keep q2)
      obtain ⟨a0, a1, a2, a3, a4, _⟩ := id HS2.out
      clear q2 HC HS1
      go_wp2_with fail
      refine (HRC.out _ HS2.out.below).mono ?_
      rintro e w3 ⟨q3, rfl⟩
      have HS3 := hid (HS2.out.keep q3)
      obtain ⟨a0, a1, a2, a3, a4, _⟩ := id HS3.out
      clear q3 HRC HS2
      go_wp2_with fail
      refine (HL.out _ HS3.out.below).mono ?_
      rintro e w4 ⟨q4, A4, c4, rfl, o4⟩
      have HS4 := hid (HS3.out.keep q4)
      obtain ⟨a0, a1, a2, a3, a4, _⟩ := id HS4.out
      obtain ⟨_, _, hv, i4⟩ := o4.ints (by dsimp only; omega) (fun x hx => by have := HBl.out x hx; omega)
      cases hv
      dsimp only at i4 ⊢
      clear o4 q4 HL HS3
      have HI4 := hid i4
      clear i4
      by_cases hz : pe = 0
      · obtain ⟨he0, hm⟩ := HIn.out hz
        subst he0
        have HHs := hid (fun w' hi => has_any A4 c4 ls prop w' hi)
        rw [hm] at HHs
        subst hz
        clear hm
        go_wp2_with fail
        refine (HHs.out _ HI4.out).mono ?_
        rintro e w5 ⟨rfl, rfl⟩
        go_wp2_with fail
        refine (knownD_any _).mono ?_
        rintro e w6 ⟨q6, rfl⟩
        have HB := hid (HS4.out.keep q6).below
        go_wp2
        go_ret
        exact ⟨HB.out, rfl⟩
      · have hz' : (pe != 0) = true := by simp [hz]
        clear hz
        go_wp2_with fail
        refine (knownD_any _).mono ?_
        rintro e w6 ⟨q6, rfl⟩
        have HB := hid (HS4.out.keep q6).below
        go_wp2
        go_ret
        exact ⟨HB.out, rfl⟩
end Go.Proofs.Ytdgleicpcjfnoaa
