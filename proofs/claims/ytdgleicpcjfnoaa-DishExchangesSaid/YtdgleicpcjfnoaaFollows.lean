/- The Go functions follows, Follows of package dish, and the document's own Follows. -/
import Derived.Test.YtdgleicpcjfnoaaClosureE
import Derived.Deep.RegionWith
set_option linter.unusedVariables false
namespace Go.Proofs.Ytdgleicpcjfnoaa
open Go.RowKit

/-- What is kept of a rule that was given. -/
def BoxS (w0 w : World) (b : Nat) (x y : Value) (w' : World) : Prop := w'.cell? ⟨b, 0, none⟩ = some x ∧ w'.cell? ⟨b, 1, none⟩ = some y ∧ Below w.heap.size w w'
section
variable {w0 w : World} {b : Nat} {x y : Value}
theorem BoxS.below {w' : World} (h : BoxS w0 w b x y w') : Below w.heap.size w w' := h.2.2
theorem BoxS.drew {w' : World} (h : BoxS w0 w b x y w') : BoxS w0 w b x y w'.drew := ⟨h.1, h.2.1, h.2.2.drew⟩
theorem BoxS.keep {w' w2 : World} (h : BoxS w0 w b x y w') (hb : Below w'.heap.size w' w2) : BoxS w0 w b x y w2 := by
  obtain ⟨a0, a1, p⟩ := h
  refine ⟨?_, ?_, p.trans (hb.mono p.size)⟩
  · rw [hb.cell (cell_lt a0)]; exact a0
  · rw [hb.cell (cell_lt a1)]; exact a1
end

set_option maxRecDepth 100000 in
set_option maxHeartbeats 4000000 in
theorem follows_any (p : Nat) (ra : Option Addr) (rls : List RuleL) (rc : Nat) (a : Option Addr) (xs : List Int) (cap t : Nat) (w : World) (h : RulesAt w ra rls) (hx : Ints w a xs) (hp : p ≤ 10) (hl : rls.length ≤ 16) (hv : rulesE (p : Int) rls = 0) (hs : Small p xs) (ht : t < p) :
  Calls Try.prog 79 #[.slice ra rls.length rc, .agg #[.slice a xs.length cap, .int .i64 t]] w (BoolR w ((closL rls (maskL xs)).testBit t)) := by
  have hmp := maskL_ltP hs
  have HL := hid (lt_64 (closL_ltP (rulesP_of hv) hp _ hmp) hp)
  have hm64 : Small 64 xs := fun x hx => by have := hs x hx; omega
  have hm10 : maskL xs < 2 ^ 10 := Nat.lt_of_lt_of_le hmp (Nat.pow_le_pow_right (by omega) hp)
  have HM := hid (fun (w' : World) (hb : Below w.heap.size w w') => (maskOf_any a xs cap w' (hx.below hb) hm64).mono (fun e w2 hh => (⟨by rw [← hh.1]; exact Below.refl _ _, hh.2⟩ : Below w'.heap.size w' w2 ∧ e = .returned (.int .u64 (maskL xs)))))
  have HC := hid (fun (w' : World) (hb : Below w.heap.size w w') => (closure_any (p : Int) ra rls rc (maskL xs) w' (h.below hb) (by omega) hl hv hm10).mono (fun e w2 hh => (⟨hh.1, hh.2.2⟩ : Below w'.heap.size w' w2 ∧ e = .returned (.int .u64 (closL rls (maskL xs))))))
  have HH := hid (fun (w' : World) => (has_mask (closL rls (maskL xs)) t w' HL.out (by omega)).mono (fun e w2 hh => (⟨by rw [← hh.1]; exact Below.refl _ _, hh.2⟩ : Below w'.heap.size w' w2 ∧ e = .returned (.bool ((closL rls (maskL xs)).testBit t)))))
  have S0 := hid (show BoxS w w w.heap.size (.slice a xs.length cap) (.int .i64 t) (w.alloc (.cells #[.slice a xs.length cap, .int .i64 t] 55)) from ⟨by go_simp, by go_simp, (Below.refl _ _).alloc (Nat.le_refl _) _⟩)
  clear h hx hv hs hmp hm64 hm10
  generalize (closL rls (maskL xs)).testBit t = res at *
  go_enter Try.func79, Try.ntmps79
  go_wp2_with fail
  go_region_held3 (fun w' => w'.cell? ⟨w.heap.size, 0, none⟩ = some (.slice a xs.length cap) ∧ w'.cell? ⟨w.heap.size, 1, none⟩ = some (.int .i64 t) ∧ Below w.heap.size w w') (first | exact S0.out.drew | exact S0.out | exact BoxS.keep (w0 := w) (by assumption) (by assumption))
    (first | (go_at_call 62; refine (HM.out _ ?_).mono ?_; (exact BoxS.below (w0 := w) (by assumption)); rintro en w4 ⟨hb4, rfl⟩) | (go_at_call 61; refine (HC.out _ ?_).mono ?_; (exact BoxS.below (w0 := w) (by assumption)); rintro en w5 ⟨hb5, rfl⟩) | (go_at_call 74; refine (HH.out _).mono ?_; rintro en w6 ⟨hb6, rfl⟩))
  have hHeld : BoxS w w w.heap.size (.slice a xs.length cap) (.int .i64 t) w6 := by assumption
  go_wp2
  go_ret
  exact ⟨hHeld.below, rfl⟩
def FollR (w : World) (r : Bool × Int) (en : Ending) (w' : World) : Prop := Below w.heap.size w w' ∧ en = .returned (.tuple #[.bool r.1, .int .i64 r.2])
theorem ret_bi {a b : Bool} {c d : Int} (h : a = b) (h' : c = d) : Ending.returned (.tuple #[.bool a, .int .i64 c]) = .returned (.tuple #[.bool b, .int .i64 d]) := by rw [h, h']
theorem ruleB_ok {P : Int} {xs : List Int} {t : Int} (h : ruleB P (xs, t) = true) : isSetFrom 0 P xs = true ∧ 0 ≤ t ∧ t < P := by
  rw [ruleB, Bool.and_eq_true, decide_eq_true_iff] at h
  exact ⟨h.1, h.2.1, h.2.2⟩
/-- What is kept of a book and a rule that were given. -/
def BrS (w : World) (P : Int) (i r x y : Value) (w' : World) : Prop :=
  w'.cell? ⟨w.heap.size, 0, none⟩ = some (.int .i64 P) ∧ w'.cell? ⟨w.heap.size, 1, none⟩ = some i ∧ w'.cell? ⟨w.heap.size, 2, none⟩ = some r ∧ w'.cell? ⟨w.heap.size + 1, 0, none⟩ = some x ∧ w'.cell? ⟨w.heap.size + 1, 1, none⟩ = some y ∧ Below w.heap.size w w'
section
variable {w : World} {P : Int} {i r x y : Value}
theorem BrS.below {w' : World} (h : BrS w P i r x y w') : Below w.heap.size w w' := h.2.2.2.2.2
theorem BrS.size {w' : World} (h : BrS w P i r x y w') : w.heap.size + 1 < w'.heap.size := cell_lt h.2.2.2.1
theorem BrS.drew {w' : World} (h : BrS w P i r x y w') : BrS w P i r x y w'.drew := by
  obtain ⟨a0, a1, a2, a3, a4, p⟩ := h
  exact ⟨a0, a1, a2, a3, a4, p.drew⟩
theorem BrS.keep {w' w2 : World} (h : BrS w P i r x y w') (hb : Below w'.heap.size w' w2) : BrS w P i r x y w2 := by
  obtain ⟨a0, a1, a2, a3, a4, p⟩ := h
  refine ⟨?_, ?_, ?_, ?_, ?_, p.trans (hb.mono p.size)⟩
  · rw [hb.cell (cell_lt a0)]; exact a0
  · rw [hb.cell (cell_lt a1)]; exact a1
  · rw [hb.cell (cell_lt a2)]; exact a2
  · rw [hb.cell (cell_lt a3)]; exact a3
  · rw [hb.cell (cell_lt a4)]; exact a4
theorem BrS.made (w : World) (P : Int) (i r x y : Value) : BrS w P i r x y ((w.alloc (.cells #[.int .i64 P, i, r] 25)).alloc (.cells #[x, y] 55)) :=
  ⟨by go_simp, by go_simp, by go_simp, by go_simp, by go_simp, ((Below.refl _ _).alloc (Nat.le_refl _) _).alloc (by simp) _⟩
end

set_option maxRecDepth 100000 in
set_option maxHeartbeats 4000000 in
theorem followsE_any (P : Int) (ia : Option Addr) (its : List ItemL) (ic : Nat) (ra : Option Addr) (rls : List RuleL) (rc : Nat) (a : Option Addr) (xs : List Int) (cap : Nat) (t : Int) (w : World) (h : BookAt w P ia its ra rls) (hx : Ints w a xs) :
  Calls Try.prog 34 #[.agg #[.int .i64 P, .slice ia its.length ic, .slice ra rls.length rc], .agg #[.slice a xs.length cap, .int .i64 t]] w (FollR w (followsL P its rls (xs, t))) := by
  have S0 := BrS.made w P (.slice ia its.length ic) (.slice ra rls.length rc) (.slice a xs.length cap) (.int .i64 t)
  have HR := hid (show followsL P its rls (xs, t) = if validB P its rls ≠ 0 then (false, validB P its rls) else if ruleB P (xs, t) then ((closL rls (maskL xs)).testBit t.toNat, 0) else (false, 1) from rfl)
  have HN := hid (validateB_any P ia its ic ra rls rc _ (h.below S0.below))
  have HS0 := hid S0
  clear S0
  by_cases hz : validB P its rls = 0
  · have HI := hid (fun (w' : World) (hb : Below w.heap.size w w') => isRule_any P (.slice ia its.length ic) (.slice ra rls.length rc) a xs cap t w' (hx.below hb))
    rw [hz] at HN
    cases hs : ruleB P (xs, t) with
    | false =>
      have HR3 := hid (show followsL P its rls (xs, t) = (false, 1) by rw [HR.out, if_neg (by simp [hz]), hs]; rfl)
      rw [hs] at HI
      clear hz HR h hs hx
      go_enter Try.func34, Try.ntmps34
      go_wp2_with fail
      refine HN.out.mono ?_
      rintro e w1 ⟨q1, rfl⟩
      have HS1 := hid (HS0.out.keep q1)
      obtain ⟨a0, a1, a2, a3, a4, _⟩ := HS1.out
      clear q1 HN
      go_wp2_with fail
      refine (HI.out _ HS1.out.below).mono ?_
      rintro e w2 ⟨q2, rfl⟩
      have hS2 := HS1.out.keep q2
      go_wp2
      refine bodyPost_ret (v := .tuple #[.bool false, .int .i64 1]) (by simp [results, Try.results34, go_sem]) rfl ⟨hS2.below, by rw [HR3.out]⟩
    | true =>
      obtain ⟨v0, v1, v2, v3, v4, v5⟩ := validB_ok hz
      obtain ⟨p, rfl⟩ := Int.eq_ofNat_of_zero_le v0
      obtain ⟨r1, r2, r3⟩ := ruleB_ok hs
      obtain ⟨m, rfl⟩ := Int.eq_ofNat_of_zero_le r2
      have HR3 := hid (show followsL (p : Int) its rls (xs, (m : Int)) = ((closL rls (maskL xs)).testBit m, 0) by rw [HR.out, if_neg (by simp [hz]), hs]; rfl)
      have HF := hid (fun (w' : World) (hb : Below w.heap.size w w') => follows_any p ra rls rc a xs cap m w' (h.below hb).rules (hx.below hb) (by omega) v3 v5 (isSetFrom_ge _ _ _ r1) (by omega))
      rw [hs] at HI
      clear hz HR h hs hx v0 v1 v4 v5 r1 r2 r3
      go_enter Try.func34, Try.ntmps34
      go_wp2_with fail
      refine HN.out.mono ?_
      rintro e w1 ⟨q1, rfl⟩
      have HS1 := hid (HS0.out.keep q1)
      obtain ⟨a0, a1, a2, a3, a4, _⟩ := HS1.out
      clear q1 HN
      go_wp2_with fail
      refine (HI.out _ HS1.out.below).mono ?_
      rintro e w2 ⟨q2, rfl⟩
      have HS2 := hid (HS1.out.keep q2)
      obtain ⟨a0, a1, a2, a3, a4, _⟩ := HS2.out
      go_wp2_with fail
      refine (HF.out _ HS2.out.below).mono ?_
      rintro e w3 ⟨q3, rfl⟩
      have hS3 := HS2.out.keep q3
      go_wp2
      refine bodyPost_ret (v := .tuple #[.bool ((closL rls (maskL xs)).testBit m), .int .i64 0]) (by simp [results, Try.results34, go_sem]) rfl ⟨hS3.below, by rw [HR3.out]⟩
  · have HR2 := hid (show followsL P its rls (xs, t) = (false, validB P its rls) by rw [HR.out, if_pos hz])
    generalize validB P its rls = x at *
    have hx : (x != 0) = true := by simp [hz]
    clear hz HR
    go_enter Try.func34, Try.ntmps34
    go_wp2_with fail
    refine HN.out.mono ?_
    rintro e w1 ⟨q1, rfl⟩
    have HS1 := HS0.out.keep q1
    go_wp2
    refine bodyPost_ret (v := .tuple #[.bool false, .int .i64 x]) (by simp [results, Try.results34, go_sem]) rfl ⟨HS1.below, by rw [HR2.out]⟩

set_option maxRecDepth 100000 in
set_option maxHeartbeats 4000000 in
theorem rfollows_any (P : Int) (ia : Option Addr) (its : List ItemL) (ic : Nat) (ra : Option Addr) (rls : List RuleL) (rc : Nat) (a : Option Addr) (xs : List Int) (cap : Nat) (t : Int) (w : World) (h : BookAt w P ia its ra rls) (hx : Ints w a xs) :
  Calls Try.prog 35 #[.agg #[.int .i64 P, .slice ia its.length ic, .slice ra rls.length rc], .agg #[.slice a xs.length cap, .int .i64 t]] w (FollR w (followsL P its rls (xs, t))) := by
  have S0 := BrS.made w P (.slice ia its.length ic) (.slice ra rls.length rc) (.slice a xs.length cap) (.int .i64 t)
  have HR := hid (show followsL P its rls (xs, t) = if validB P its rls ≠ 0 then (false, validB P its rls) else if ruleB P (xs, t) then ((closL rls (maskL xs)).testBit t.toNat, 0) else (false, 1) from rfl)
  have HN := hid (rvalidB_any P ia its ic ra rls rc _ (h.below S0.below))
  have HS0 := hid S0
  clear S0
  by_cases hz : validB P its rls = 0
  · obtain ⟨v0, v1, v2, v3, v4, v5⟩ := validB_ok hz
    obtain ⟨p, rfl⟩ := Int.eq_ofNat_of_zero_le v0
    have HI := hid (fun (w' : World) (hb : Below w.heap.size w w') => ruleOK_any (p : Int) a xs cap t w' (hx.below hb) v0 v1)
    rw [hz] at HN
    cases hs : ruleB (p : Int) (xs, t) with
    | false =>
      have HR3 := hid (show followsL (p : Int) its rls (xs, t) = (false, 1) by rw [HR.out, if_neg (by simp [hz]), hs]; rfl)
      rw [hs] at HI
      clear hz HR h hs hx v0 v1 v4 v5
      go_enter Try.func35, Try.ntmps35
      go_wp2_with fail
      refine HN.out.mono ?_
      rintro e w1 ⟨q1, rfl⟩
      have HS1 := hid (HS0.out.keep q1)
      obtain ⟨a0, a1, a2, a3, a4, _⟩ := HS1.out
      clear q1 HN
      go_wp2_with fail
      refine (HI.out _ HS1.out.below).mono ?_
      rintro e w2 ⟨q2, rfl⟩
      have hS2 := HS1.out.keep q2
      go_wp2
      refine bodyPost_ret (v := .tuple #[.bool false, .int .i64 1]) (by simp [results, Try.results35, go_sem]) rfl ⟨hS2.below, by rw [HR3.out]⟩
    | true =>
      obtain ⟨r1, r2, r3⟩ := ruleB_ok hs
      obtain ⟨m, rfl⟩ := Int.eq_ofNat_of_zero_le r2
      have hsm := isSetFrom_ge _ _ _ r1
      have hmp := maskL_ltP hsm
      have hRP := rulesP_of v5
      have hp10 : p ≤ 10 := by omega
      have HR3 := hid (show followsL (p : Int) its rls (xs, (m : Int)) = ((closL rls (maskL xs)).testBit m, 0) by rw [HR.out, if_neg (by simp [hz]), hs]; rfl)
      have HM := hid (fun (w' : World) (hb : Below w.heap.size w w') => marks_any a xs cap p w' (hx.below hb) hsm (by omega))
      have HC := hid (fun (w' : World) (hb : Below w.heap.size w w') (A : Option Addr) (c : Nat) (hA : BoolsAt w' A p (maskL xs)) => closed_any ra rls rc A p (maskL xs) c w' (h.below hb).rules hA hp10 hmp (fun r hr => hRP r hr))
      have hmp' : (m : Int) < (p : Int) := by omega
      have hm0 : (0 : Int) ≤ (m : Int) := by omega
      have hmN : m < p := by omega
      rw [hs] at HI
      clear hz HR h hs hx v0 v1 v4 v5 r1 r2 r3 hsm hmp hRP
      go_enter Try.func35, Try.ntmps35
      go_wp2_with fail
      refine HN.out.mono ?_
      rintro e w1 ⟨q1, rfl⟩
      have HS1 := hid (HS0.out.keep q1)
      obtain ⟨a0, a1, a2, a3, a4, _⟩ := HS1.out
      clear q1 HN
      go_wp2_with fail
      refine (HI.out _ HS1.out.below).mono ?_
      rintro e w2 ⟨q2, rfl⟩
      have HS2 := hid (HS1.out.keep q2)
      clear a0 a1 a2 a3 a4 q2 HI
      go_wp2
      refine wp_region_held_drew (S := fun w' => w'.cell? ⟨w.heap.size, 0, none⟩ = some (.int .i64 (p : Int)) ∧ w'.cell? ⟨w.heap.size, 1, none⟩ = some (.slice ia its.length ic) ∧ w'.cell? ⟨w.heap.size, 2, none⟩ = some (.slice ra rls.length rc) ∧ w'.cell? ⟨w.heap.size + 1, 0, none⟩ = some (.slice a xs.length cap) ∧ w'.cell? ⟨w.heap.size + 1, 1, none⟩ = some (.int .i64 (m : Int)) ∧ Below w.heap.size w w') (by kernel_rfl) HS2.out.drew (fun hHeld => ?_)
      refine wpAnyH_take (i := 0) (oi := _) (v := ?_) rfl (by kernel_rfl) (by kernel_rfl) (by kernel_rfl) (fun _ _ _ h => h) (Or.inl ⟨by rfl, ?hy0⟩) (by assumption) ?rest0
      case hy0 => (intro w hSw; (try dsimp only at hSw); go_simp <;> with_reducible rfl)
      try simp only [Act.put]
      refine wpAnyH_take (i := 1) (oi := _) (v := ?_) rfl (by kernel_rfl) (by kernel_rfl) (by kernel_rfl) (fun _ _ _ h => h) (Or.inl ⟨by rfl, ?hy1⟩) (by assumption) ?rest1
      case hy1 => (intro w hSw; (try dsimp only at hSw); go_simp <;> with_reducible rfl)
      try simp only [Act.put]
      refine wpAnyH_take (i := 2) (oi := _) (v := ?_) rfl (by kernel_rfl) (by kernel_rfl) (by kernel_rfl) (fun _ _ _ h => h) (Or.inl ⟨by rfl, ?hy2⟩) (by assumption) ?rest2
      case hy2 => (intro w hSw; (try dsimp only at hSw); go_simp <;> with_reducible rfl)
      try simp only [Act.put]
      refine wpAnyH_take (i := 3) (oi := _) (v := ?_) rfl (by kernel_rfl) (by kernel_rfl) (by kernel_rfl) (fun _ _ _ h => h) (Or.inl ⟨by rfl, ?hy3⟩) (by assumption) ?rest3
      case hy3 => (intro w hSw; (try dsimp only at hSw); go_simp <;> with_reducible rfl)
      try simp only [Act.put]
      refine wpAnyH_take (i := 4) (oi := _) (v := ?_) rfl (by kernel_rfl) (by kernel_rfl) (by kernel_rfl) (fun _ _ _ h => h) (Or.inl ⟨by rfl, ?hy4⟩) (by assumption) ?rest4
      case hy4 => (intro w hSw; (try dsimp only at hSw); go_simp <;> with_reducible rfl)
      try simp only [Act.put]
      refine wpAnyH_take (i := 5) (oi := _) (v := ?_) rfl (by kernel_rfl) (by kernel_rfl) (by kernel_rfl) (fun _ _ _ h => h) (Or.inl ⟨by rfl, ?hy5⟩) (by assumption) ?rest5
      case hy5 => (intro w hSw; (try dsimp only at hSw); go_simp <;> with_reducible rfl)
      try simp only [Act.put]
      refine wpAnyH_take (i := 8) (oi := _) (v := ?_) rfl (by kernel_rfl) (by kernel_rfl) (by kernel_rfl) (fun _ _ _ h => h) (Or.inl ⟨by rfl, ?hy8⟩) (by assumption) ?rest8
      case hy8 => (intro w hSw; (try dsimp only at hSw); go_simp <;> with_reducible rfl)
      try simp only [Act.put]
      refine wpAnyH_take (i := 9) (oi := _) (v := ?_) rfl (by kernel_rfl) (by kernel_rfl) (by kernel_rfl) (fun _ _ _ h => h) (Or.inl ⟨by rfl, ?hy9⟩) (by assumption) ?rest9
      case hy9 => (intro w hSw; (try dsimp only at hSw); go_simp <;> with_reducible rfl)
      try simp only [Act.put]
      refine wpAnyH_ready (rs := [6]) (by kernel_rfl) (by simp) ?_
      refine AllReadyH.cons (o := _) rfl (fun K hK => ?_) AllReadyH.nil
      go_simp
      refine (HM.out _ HS2.out.drew.below).mono ?_
      rintro en w4 ⟨hb4, g4, c4, rfl, hB4⟩
      have HS4 := hid (HS2.out.drew.keep hb4)
      go_wp2_with fail
      refine hK.out _ _ HS4.out (fun hHeld => ?_)
      clear hK K
      try simp only [Act.put]
      refine wpAnyH_ready (rs := [7]) (by kernel_rfl) (by simp) ?_
      refine AllReadyH.cons (o := _) rfl (fun K hK => ?_) AllReadyH.nil
      go_simp
      refine (HC.out _ HS4.out.below _ _ (hB4.at_ (by omega))).mono ?_
      rintro en w5 ⟨hb5, A5, c5, rfl, hB5, _⟩
      obtain ⟨b5, off5, rfl, hc5⟩ := hB5.at_.resolve_left (by omega)
      have d5 := hc5 m hmN
      have HS5 := hid (HS4.out.keep hb5)
      clear hc5
      go_wp2_with fail
      refine hK.out _ _ HS5.out (fun hHeld => ?_)
      clear hK K
      try simp only [Act.put]
      refine wpAnyH_take (i := 10) (oi := _) (v := ?_) rfl (by kernel_rfl) (by kernel_rfl) (by kernel_rfl) (fun _ _ _ h => h) (Or.inl ⟨by rfl, ?hy10⟩) (by assumption) ?rest10
      case hy10 => (intro w hSw; (try dsimp only at hSw); go_simp <;> with_reducible rfl)
      try simp only [Act.put]
      refine wpAnyH_ready (rs := [11]) (by kernel_rfl) (by simp) ?_
      refine AllReadyH.cons (o := _) rfl (fun K hK => ?_) AllReadyH.nil
      go_simp
      refine hK.out _ _ HS5.out (fun hHeld => ?_)
      clear hK K
      try simp only [Act.put]
      refine wpAnyH_take (i := 12) (oi := _) (v := ?_) rfl (by kernel_rfl) (by kernel_rfl) (by kernel_rfl) (fun _ _ _ h => h) (Or.inl ⟨by rfl, ?hy12⟩) (by assumption) ?rest12
      case hy12 => (intro w hSw; (try dsimp only at hSw); go_simp <;> with_reducible rfl)
      try simp only [Act.put]
      refine wpAnyH_take (i := 13) (oi := _) (v := ?_) rfl (by kernel_rfl) (by kernel_rfl) (by kernel_rfl) (fun _ _ _ h => h) (Or.inl ⟨by rfl, ?hy13⟩) (by assumption) ?rest13
      case hy13 => (intro w hSw; (try dsimp only at hSw); go_simp <;> with_reducible rfl)
      try simp only [Act.put]
      refine wpAnyH_done (by kernel_rfl) ?_ _
      go_simp
      have hS5 := HS5.out
      go_wp2
      refine bodyPost_ret (v := .tuple #[.bool ((closL rls (maskL xs)).testBit m), .int .i64 0]) (by simp [results, Try.results35, go_sem]) rfl ⟨hS5.below, by rw [HR3.out]⟩
  · have HR2 := hid (show followsL P its rls (xs, t) = (false, validB P its rls) by rw [HR.out, if_pos hz])
    generalize validB P its rls = x at *
    have hx : (x != 0) = true := by simp [hz]
    clear hz HR
    go_enter Try.func35, Try.ntmps35
    go_wp2_with fail
    refine HN.out.mono ?_
    rintro e w1 ⟨q1, rfl⟩
    have HS1 := HS0.out.keep q1
    go_wp2
    refine bodyPost_ret (v := .tuple #[.bool false, .int .i64 x]) (by simp [results, Try.results35, go_sem]) rfl ⟨HS1.below, by rw [HR2.out]⟩
end Go.Proofs.Ytdgleicpcjfnoaa
