/- The law DishExplains: its walk. -/
import Derived.Test.YtdgleicpcjfnoaaDishProofsW
import Derived.Test.YtdgleicpcjfnoaaExplain
import Derived.Test.YtdgleicpcjfnoaaProvable
set_option linter.unusedVariables false
set_option linter.unusedSimpArgs false
namespace Go.Proofs.Ytdgleicpcjfnoaa
open Go.RowKit

theorem expl_prov {P : Int} {its : List ItemL} {rls : List RuleL} {item prop : Int} {l : List StepL} {b b2 : Bool} {e e2 : Int} (h : explA P its rls item prop l b e) (h2 : provA P its rls item prop b2 e2) : b2 = b ∧ e2 = e := by
  unfold explA at h
  unfold provA at h2
  split at h
  · rename_i hz
    rw [if_pos hz] at h2
    exact ⟨h2.1.trans h.2.1.symm, h2.2.trans h.2.2.symm⟩
  · rename_i hz
    rw [if_neg hz] at h2
    exact ⟨h2.2.trans h.2.1.symm, h2.1.trans h.1.symm⟩
theorem expl_no {P : Int} {its : List ItemL} {rls : List RuleL} {item prop : Int} {l : List StepL} {e : Int} (h : explA P its rls item prop l false e) : l = [] := by
  unfold explA at h
  split at h
  · exact h.1
  · simpa using h.2.2
theorem prop_check {P : Int} {its : List ItemL} {rls : List RuleL} {item prop : Int} (h : propE P its rls item prop = 0) : checkIt P its rls item = 0 := by
  unfold propE at h
  split at h
  · assumption
  · rename_i h2; exact absurd h h2
theorem expl_yes {P : Int} {its : List ItemL} {rls : List RuleL} {item prop : Int} {l : List StepL} {e : Int} (h : explA P its rls item prop l true e) (hl : l.length ≤ 20) : propE P its rls item prop = 0 ∧ proofE P its rls item prop l = 0 := by
  unfold explA at h
  split at h
  · rename_i hz; exact absurd h.2.1 (by simp)
  · rename_i hz
    have hz : propE P its rls item prop = 0 := by simpa using hz
    rw [if_pos rfl] at h
    have h3 := h.2.2
    clear h
    generalize hx : explL its rls item.toNat = ex at h3
    obtain ⟨k, hk, hkp, hlk⟩ := h3
    subst hlk
    subst hx
    obtain ⟨p, n, rfl, rfl, hp, hn, hl20, v4, hR, hRo, hb, ho, ho10, he⟩ := label_facts (prop_check hz)
    refine ⟨hz, ?_⟩
    have hst := stepsB_take (expl_right hRo n hb (by omega) ho10) (k + 1)
    have hla := lastP_take _ _ hk
    rw [hkp] at hla
    rw [Int.toNat_natCast] at hla hl ⊢
    generalize (explL its rls n).take (k + 1) = m at *
    have hz' : ¬ propE (p : Int) its rls (n : Int) prop ≠ 0 := by simp [hz]
    have h40 : ¬ 40 < m.length := by omega
    unfold proofE
    rw [if_neg hz', if_neg h40, Int.toNat_natCast, hst, if_neg (by simp), if_pos hla]

set_option maxRecDepth 100000 in
set_option maxHeartbeats 8000000 in
theorem dishExplains_walk (P : Int) (ia : Option Addr) (its : List ItemL) (ic : Nat) (ra : Option Addr) (rls : List RuleL) (rc : Nat) (item prop : Int) (w : World) (h : BookRaw w P ia its ra rls) :
  Calls Try.prog 7 #[.agg #[.int .i64 P, .slice ia its.length ic, .slice ra rls.length rc], .agg #[.int .i64 item, .int .i64 prop]] w (BoolR w true) := by
  have S0 := BrS.ask w P (.slice ia its.length ic) (.slice ra rls.length rc) (.int .i64 item) (.int .i64 prop)
  have hRaw : BookRaw ((w.alloc (.cells #[.int .i64 P, .slice ia its.length ic, .slice ra rls.length rc] 25)).alloc (.cells #[.int .i64 item, .int .i64 prop] 41)) P ia its ra rls := ⟨h.lo, h.hi, h.li, h.lr, h.items.below S0.below, h.rules.below S0.below⟩
  have HLg := hid (longBk_any P ia its ic ra rls rc _ hRaw)
  have HS0 := hid S0
  clear S0 hRaw
  by_cases hb : longBk its rls = true
  · rw [hb] at HLg
    clear hb
    go_enter Try.func7, Try.ntmps7
    go_wp2_with fail
    refine HLg.out.mono ?_
    rintro e w1 ⟨q1, rfl⟩
    have hS1 := HS0.out.keep q1
    go_wp2_with fail
    refine (knownD_any _).mono ?_
    rintro e w2 ⟨q2, rfl⟩
    go_wp2
    go_ret
    exact ⟨(hS1.keep q2).below, rfl⟩
  · rw [Bool.not_eq_true] at hb
    have hBk := h.book hb
    rw [hb] at HLg
    have HE := hid (fun (w' : World) (hb : Below w.heap.size w w') => explain_any P ia its ic ra rls rc item prop w' (hBk.below hb))
    have HP := hid (fun (w' : World) (hb : Below w.heap.size w w') => provable_any P ia its ic ra rls rc item prop w' (hBk.below hb))
    have HRC := hid (fun (a : Option Addr) (l : List StepL) (cap : Nat) (w' : World) (hb : Below w.heap.size w w') (hs : StepsAt w' a l) => rcheckProof_any P ia its ic ra rls rc item prop a l cap w' (hBk.below hb) hs)
    clear hb hBk h
    go_enter Try.func7, Try.ntmps7
    go_wp2_with fail
    refine HLg.out.mono ?_
    rintro e w1 ⟨q1, rfl⟩
    have HS1 := hid (HS0.out.keep q1)
    obtain ⟨a0, a1, a2, a3, a4, _⟩ := id HS1.out
    clear q1 HLg HS0
    go_wp2_with fail
    refine (HE.out _ HS1.out.below).mono ?_
    rintro e w2 ⟨q2, l, b, er, A, c, rfl, hst, hl20, hlc, hex⟩
    have HS2 := hid (HS1.out.keep q2)
    obtain ⟨a0, a1, a2, a3, a4, _⟩ := id HS2.out
    have HSt := hid (fun w' (hb : Below w2.heap.size w2 w') => hst.below hb)
    have HEx := hid hex
    clear q2 HE HS1 hst hex
    go_wp2_with fail
    refine (HP.out _ HS2.out.below).mono ?_
    rintro e w3 ⟨q3, b2, e2, rfl, hpr⟩
    have HS3 := hid (HS2.out.keep q3)
    obtain ⟨a0, a1, a2, a3, a4, _⟩ := id HS3.out
    have hS3 := hid (HSt.out w3 q3)
    obtain ⟨rfl, rfl⟩ := expl_prov HEx.out hpr
    clear q3 HP HS2 hpr HSt
    have hee : (e2 != e2) = false := by simp
    cases b2 with
    | false =>
      have hl := expl_no HEx.out
      subst hl
      go_wp2_with fail
      refine (knownD_any _).mono ?_
      rintro e w6 ⟨q6, rfl⟩
      have HB := hid (HS3.out.keep q6).below
      go_wp2
      go_ret
      exact ⟨HB.out, rfl⟩
    | true =>
      have HPf := hid (expl_yes HEx.out hl20)
      have HR := hid (HRC.out A l c w3 HS3.out.below hS3.out)
      rw [HPf.out.2] at HR
      clear HRC HEx
      go_wp2_with fail
      refine HR.out.mono ?_
      rintro e w4 ⟨q4, rfl⟩
      have HS4 := hid (HS3.out.keep q4)
      clear q4 HR HS3
      go_wp2_with fail
      refine (knownD_any _).mono ?_
      rintro e w6 ⟨q6, rfl⟩
      have HB := hid (HS4.out.keep q6).below
      go_wp2
      go_ret
      exact ⟨HB.out, rfl⟩
end Go.Proofs.Ytdgleicpcjfnoaa
