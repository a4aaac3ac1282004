/- The Go functions Closure, Follows of package dish. -/
import Derived.Test.YtdgleicpcjfnoaaRPub
set_option linter.unusedVariables false
namespace Go.Proofs.Ytdgleicpcjfnoaa
open Go.RowKit

theorem lt_64 {M P : Nat} (h : M < 2 ^ P) (hP : P ≤ 10) : M < 18446744073709551616 := by
  have h2 : 2 ^ P ≤ 2 ^ 10 := Nat.pow_le_pow_right (by omega) hP
  omega
/-- numbers, with a name for what it answers (laid open, the list is reckoned out). -/
theorem numbers_x (M : Nat) (w : World) (hM : M < 18446744073709551616) :
  Calls Try.prog 54 #[.int .u64 M] w fun en w' => ∃ xs, Hid (xs = numsL M) ∧ OwnRs w w.heap.size xs en w' :=
  (numbers_any M w hM).mono fun e w' h => ⟨_, rfl, h⟩
set_option maxRecDepth 100000 in
set_option maxHeartbeats 4000000 in
theorem closureE_any (P : Int) (ia : Option Addr) (its : List ItemL) (ic : Nat) (ra : Option Addr) (rls : List RuleL) (rc : Nat) (a : Option Addr) (ps : List Int) (cap : Nat) (w : World) (h : BookAt w P ia its ra rls) (hp : Ints w a ps) :
  Calls Try.prog 26 #[.agg #[.int .i64 P, .slice ia its.length ic, .slice ra rls.length rc], .slice a ps.length cap] w (OwnERs w w.heap.size (closureL P its rls ps)) := by
  have S0 := ValS.made w P (.slice ia its.length ic) (.slice ra rls.length rc)
  have hA := h.below S0.below
  have HR := hid (show closureL P its rls ps = if validB P its rls ≠ 0 then ([], validB P its rls) else if isSetFrom 0 P ps then (bitsTo (closL rls (maskL ps)) 64, 0) else ([], 1) from rfl)
  have HN := hid (validateB_any P ia its ic ra rls rc _ hA)
  have HS0 := hid S0
  have HI := hid (fun (w' : World) (hb : Below w.heap.size w w') => isSet_any a ps cap P w' (hp.below hb))
  clear S0
  by_cases hz : validB P its rls = 0
  · have HR2 := hid (show closureL P its rls ps = if isSetFrom 0 P ps then (bitsTo (closL rls (maskL ps)) 64, 0) else ([], 1) by rw [HR.out, if_neg (by simp [hz])])
    obtain ⟨v0, v1, v2, v3, v4, v5⟩ := validB_ok hz
    rw [hz] at HN
    cases hs : isSetFrom 0 P ps with
    | false =>
      have HR3 := hid (show closureL P its rls ps = ([], 1) by rw [HR2.out, hs]; rfl)
      rw [hs] at HI
      clear hz HR HR2 v0 v1 v4 v5 hA h hs hp
      go_enter Try.func26, Try.ntmps26
      go_wp2_with fail
      refine HN.out.mono ?_
      rintro e w1 ⟨q1, rfl⟩
      have HS1 := hid (HS0.out.keep q1)
      have a0 := HS1.out.1
      clear q1 HN
      go_wp2_with fail
      refine (HI.out _ HS1.out.below).mono ?_
      rintro e w2 ⟨rfl, rfl⟩
      go_wp2
      refine bodyPost_ret (v := .tuple #[.slice none 0 0, .int .i64 1]) (by simp [results, Try.results26, go_sem]) rfl ⟨HS1.out.below, none, 0, by rw [HR3.out]; rfl, by rw [HR3.out]; exact Own.nil _ _⟩
    | true =>
      obtain ⟨p, rfl⟩ := Int.eq_ofNat_of_zero_le v0
      have hp10 : p ≤ 10 := by omega
      have hsm := isSetFrom_ge _ _ _ hs
      have hmp := maskL_ltP hsm
      have HL := hid (lt_64 (closL_ltP (rulesP_of v5) hp10 _ hmp) hp10)
      have HR3 := hid (show closureL (p : Int) its rls ps = (numsL (closL rls (maskL ps)), 0) by rw [HR2.out, hs]; rfl)
      have hm64 : Small 64 ps := fun x hx => by have := hsm x hx; omega
      have hm10 : maskL ps < 2 ^ 10 := Nat.lt_of_lt_of_le hmp (Nat.pow_le_pow_right (by omega) hp10)
      have HM := hid (fun (w' : World) (hb : Below w.heap.size w w') => (maskOf_any a ps cap w' (hp.below hb) hm64).mono (fun e w2 hh => (⟨by rw [← hh.1]; exact Below.refl _ _, hh.2⟩ : Below w'.heap.size w' w2 ∧ e = .returned (.int .u64 (maskL ps)))))
      have HC := hid (fun (w' : World) (hb : Below w.heap.size w w') => (closure_any (p : Int) ra rls rc (maskL ps) w' (h.below hb).rules v1 v3 v5 hm10).mono (fun e w2 hh => (⟨hh.1, hh.2.2⟩ : Below w'.heap.size w' w2 ∧ e = .returned (.int .u64 (closL rls (maskL ps))))))
      rw [hs] at HI
      clear hz HR HR2 v0 v1 v4 v5 hA h hs hp hsm hmp hm64 hm10
      go_enter Try.func26, Try.ntmps26
      go_wp2_with fail
      refine HN.out.mono ?_
      rintro e w1 ⟨q1, rfl⟩
      have HS1 := hid (HS0.out.keep q1)
      have a0 := HS1.out.1
      clear q1 HN
      go_wp2_with fail
      refine (HI.out _ HS1.out.below).mono ?_
      rintro e w2 ⟨rfl, rfl⟩
      clear a0 HI
      go_wp2
      go_region_held3 (fun w' => w'.cell? ⟨w.heap.size, 0, none⟩ = some (.int .i64 (p : Int)) ∧ w'.cell? ⟨w.heap.size, 1, none⟩ = some (.slice ia its.length ic) ∧ w'.cell? ⟨w.heap.size, 2, none⟩ = some (.slice ra rls.length rc) ∧ Below w.heap.size w w') (first | exact HS1.out.drew | exact HS1.out | exact ValS.keep (by assumption) (by assumption))
        (first | (go_at_call 62; refine (HM.out _ ?_).mono ?_; (exact ValS.below (by assumption)); rintro en w4 ⟨hb4, rfl⟩) | (go_at_call 61; refine (HC.out _ ?_).mono ?_; (exact ValS.below (by assumption)); rintro en w5 ⟨hb5, rfl⟩) | (go_at_call 54; refine (numbers_x _ _ HL.out).mono ?_; rintro en w6 ⟨xs, HX, hb6, A6, c6, rfl, hown6'⟩; have hown6 := hid hown6'; clear hown6'))
      have hHeld : ValS w (p : Int) (.slice ia its.length ic) (.slice ra rls.length rc) w6 := by assumption
      have hz1 := HS1.out.size
      have hz4 := hb4.size
      have hz5 := hb5.size
      have hw5 : w.heap.size ≤ w5.heap.size := by simp at hz4; omega
      go_wp2
      refine bodyPost_ret (v := .tuple #[.slice A6 xs.length c6, .int .i64 0]) (by simp [results, Try.results26, go_sem]) rfl ⟨hHeld.below, A6, c6, by rw [HR3.out, ← HX.out], by rw [HR3.out, ← HX.out]; exact own_weak hown6.out hw5⟩
  · have HR2 := hid (show closureL P its rls ps = ([], validB P its rls) by rw [HR.out, if_pos hz])
    generalize validB P its rls = x at *
    have hx : (x != 0) = true := by simp [hz]
    clear hz HR
    go_enter Try.func26, Try.ntmps26
    go_wp2_with fail
    refine HN.out.mono ?_
    rintro e w1 ⟨q1, rfl⟩
    have HS1 := HS0.out.keep q1
    go_wp2
    refine bodyPost_ret (v := .tuple #[.slice none 0 0, .int .i64 x]) (by simp [results, Try.results26, go_sem]) rfl ⟨HS1.below, none, 0, by rw [HR2.out]; rfl, by rw [HR2.out]; exact Own.nil _ _⟩
end Go.Proofs.Ytdgleicpcjfnoaa
