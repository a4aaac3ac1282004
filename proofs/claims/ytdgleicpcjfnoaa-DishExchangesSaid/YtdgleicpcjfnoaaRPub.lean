/- The document's own Contains, Label, Closure, Follows of books. -/
import Derived.Test.YtdgleicpcjfnoaaLabel
import Derived.Test.YtdgleicpcjfnoaaRBase
import Derived.Test.YtdgleicpcjfnoaaProofN
import Derived.Deep.RegionHeld3
/- The Go function Contains of package dish. -/
set_option linter.unusedVariables false
namespace Go.Proofs.Ytdgleicpcjfnoaa
open Go.RowKit

def containsL (P : Int) (its : List ItemL) (rls : List RuleL) (item : Int) : List Int × Int :=
  if checkIt P its rls item ≠ 0 then ([], checkIt P its rls item) else (bitsTo (contL its item.toNat) 64, 0)
theorem checkIt_ok3 {P : Int} {its : List ItemL} {rls : List RuleL} {item : Int} (hz : checkIt P its rls item = 0) : validB P its rls = 0 ∧ 0 ≤ item ∧ item < (its.length : Int) := by
  unfold checkIt at hz
  split at hz
  · exact absurd hz ‹_›
  · split at hz
    · exact ⟨by simp_all, ‹_›⟩
    · cases hz

set_option maxRecDepth 100000 in
set_option maxHeartbeats 4000000 in
theorem containsE_any (P : Int) (ia : Option Addr) (its : List ItemL) (ic : Nat) (ra : Option Addr) (rls : List RuleL) (rc : Nat) (item : Int) (w : World) (h : BookAt w P ia its ra rls) :
  Calls Try.prog 20 #[.agg #[.int .i64 P, .slice ia its.length ic, .slice ra rls.length rc], .int .i64 item] w (OwnERs w w.heap.size (containsL P its rls item)) := by
  have hB := (Below.refl w.heap.size w).alloc (Nat.le_refl _) (.cells #[.int .i64 P, .slice ia its.length ic, .slice ra rls.length rc] 25)
  have hA := h.below hB
  go_enter Try.func20, Try.ntmps20
  go_wp2_with fail
  refine (checkItem_any _ _ _ _ _ _ _ _ _ hA).mono ?_
  rintro e w1 ⟨q1, rfl⟩
  have p1 := hB.trans (q1.mono (by simp))
  have hs1 := q1.size
  simp only [World.size_alloc] at hs1
  have a0 : w1.cell? ⟨w.heap.size, 0, none⟩ = some (.int .i64 P) := by rw [q1.cell (by simp)]; go_simp
  have a1 : w1.cell? ⟨w.heap.size, 1, none⟩ = some (.slice ia its.length ic) := by rw [q1.cell (by simp)]; go_simp
  have a2 : w1.cell? ⟨w.heap.size, 2, none⟩ = some (.slice ra rls.length rc) := by rw [q1.cell (by simp)]; go_simp
  have HR := hid (show containsL P its rls item = if checkIt P its rls item ≠ 0 then ([], checkIt P its rls item) else (bitsTo (contL its item.toNat) 64, 0) from rfl)
  by_cases hz : checkIt P its rls item = 0
  · have HR2 := hid (show containsL P its rls item = (numsL (contL its item.toNat), 0) by rw [HR.out, if_neg (by simp [hz])]; rfl)
    obtain ⟨hv, hi0, hi1⟩ := checkIt_ok3 hz
    obtain ⟨n, rfl⟩ := Int.eq_ofNat_of_zero_le hi0
    rw [Int.toNat_natCast] at HR2
    obtain ⟨v0, v1, v2, v3, v4, v5⟩ := validB_ok hv
    have HL := hid (contained_any P ia its ic (.slice ra rls.length rc) n w1 (h.below p1).items v2 (by omega) v4)
    rw [hz]
    clear hA HR
    go_wp2_with fail
    refine HL.out.mono ?_
    rintro e w2 ⟨q2, hlt, rfl⟩
    have p2 := p1.trans (q2.mono p1.size)
    have hs2 := q2.size
    go_wp2_with fail
    refine (numbers_any _ _ (by omega)).mono ?_
    rintro e w3 ⟨q3, A, c, rfl, hown⟩
    have p3 := p2.trans (q3.mono p2.size)
    have hq3 := q3.size
    go_wp2
    refine bodyPost_ret (v := .tuple #[.slice A (numsL (contL its n)).length c, .int .i64 0]) (by simp [results, Try.results20, go_sem]) rfl ⟨p3, A, c, by rw [HR2.out], by rw [HR2.out]; exact own_weak hown (by omega)⟩
  · have HR2 := hid (show containsL P its rls item = ([], checkIt P its rls item) by rw [HR.out, if_pos hz])
    generalize checkIt P its rls item = x at *
    have hx : (x != 0) = true := by simp [hz]
    go_wp2
    refine bodyPost_ret (v := .tuple #[.slice none 0 0, .int .i64 x]) (by simp [results, Try.results20, go_sem]) rfl ⟨p1, none, 0, by rw [HR2.out]; rfl, by rw [HR2.out]; exact Own.nil _ _⟩

end Go.Proofs.Ytdgleicpcjfnoaa
set_option linter.unusedVariables false
namespace Go.Proofs.Ytdgleicpcjfnoaa
open Go.RowKit

theorem BoolsAt.drew {w : World} {a : Option Addr} {n M : Nat} (h : BoolsAt w a n M) : BoolsAt w.drew a n M := h.below (Below.refl _ _).drew
theorem bools_len_ok {n M : Nat} (h : n ≤ 64) : (bitsTo M n).length ≤ 64 := Nat.le_trans (bitsTo_len M n) h

set_option maxRecDepth 100000 in
set_option maxHeartbeats 4000000 in
theorem rlabel_any (P : Int) (ia : Option Addr) (its : List ItemL) (ic : Nat) (ra : Option Addr) (rls : List RuleL) (rc : Nat) (item : Int) (w : World) (h : BookAt w P ia its ra rls) :
  Calls Try.prog 23 #[.agg #[.int .i64 P, .slice ia its.length ic, .slice ra rls.length rc], .int .i64 item] w (OwnERs w w.heap.size (labelL P its rls item)) := by
  have S0 := ValS.made w P (.slice ia its.length ic) (.slice ra rls.length rc)
  have hA := h.below S0.below
  have HR := hid (show labelL P its rls item = if checkIt P its rls item ≠ 0 then ([], checkIt P its rls item) else (bitsTo (labM its rls item.toNat) 64, 0) from rfl)
  have HN := hid (rnamed_any P ia its ic ra rls rc item _ hA)
  have HS0 := hid S0
  clear S0
  by_cases hz : checkIt P its rls item = 0
  · have HR2 := hid (show labelL P its rls item = (bitsTo (labM its rls item.toNat) 64, 0) by rw [HR.out, if_neg (by simp [hz])])
    obtain ⟨hv, hi0, hi1⟩ := checkIt_ok3 hz
    obtain ⟨n, rfl⟩ := Int.eq_ofNat_of_zero_le hi0
    rw [Int.toNat_natCast] at HR2
    obtain ⟨v0, v1, v2, v3, v4, v5⟩ := validB_ok hv
    obtain ⟨p, rfl⟩ := Int.eq_ofNat_of_zero_le v0
    have hp : p ≤ 10 := by omega
    have hRP := rulesP_of v5
    have hown := own_lt v4 n (contL_bits (p : Int) its v4 n (by omega)) (by omega)
    have HPl := hid (show bitsTo (labM its rls n) p = bitsTo (labM its rls n) 64 from bitsTo_P (closL_ltP hRP hp _ hown) (by omega))
    have HB := hid (fun (w' : World) (hb : Below w.heap.size w w') => base_any p ia its ic (.slice ra rls.length rc) n w' (h.below hb).items hp v2 (by omega) v4)
    have HC := hid (fun (w' : World) (hb : Below w.heap.size w w') (A : Option Addr) (c : Nat) (hA : BoolsAt w' A p (propsL (ownL its n))) => closed_any ra rls rc A p (propsL (ownL its n)) c w' (h.below hb).rules hA hp hown (fun r hr => hRP r hr))
    rw [hz] at HN
    clear hz HR v0 v1 v4 v5 hv hRP hown hA h
    go_enter Try.func23, Try.ntmps23
    go_wp2_with fail
    refine HN.out.mono ?_
    rintro e w1 ⟨q1, rfl⟩
    have HS1 := hid (HS0.out.keep q1)
    have a0 := HS1.out.1
    have a1 := HS1.out.2.1
    have a2 := HS1.out.2.2.1
    clear q1 HN
    go_wp2
    clear a0 a1 a2
    go_region_held3 (fun w' => w'.cell? ⟨w.heap.size, 0, none⟩ = some (.int .i64 (p : Int)) ∧ w'.cell? ⟨w.heap.size, 1, none⟩ = some (.slice ia its.length ic) ∧ w'.cell? ⟨w.heap.size, 2, none⟩ = some (.slice ra rls.length rc) ∧ Below w.heap.size w w') (first | exact HS1.out.drew | exact HS1.out | exact ValS.keep (by assumption) (by assumption))
      (first | (go_at_call 60; refine (HB.out _ ?_).mono ?_; (exact ValS.below (by assumption)); rintro en w4 ⟨hb4, A4, c4, rfl, hB4', _⟩; have hB4 := hid hB4'; clear hB4') | (go_at_call 59; refine (HC.out _ ?_ _ _ (by first | exact hB4.out | exact BoolsAt.drew hB4.out)).mono ?_; (exact ValS.below (by assumption)); rintro en w5 ⟨hb5, A5, c5, rfl, hB5', _⟩; have hB5 := hid hB5'; clear hB5') | (go_at_call 56; refine (places_any _ _ _ _ _ (by first | exact hB5.out | exact BoolsAt.drew hB5.out) (by omega)).mono ?_; rintro en w6 ⟨hb6, A6, c6, rfl, hown6'⟩; have hown6 := hid hown6'; clear hown6'))
    have hHeld : ValS w (p : Int) (.slice ia its.length ic) (.slice ra rls.length rc) w6 := by assumption
    have hz1 := HS1.out.size
    have hz4 := hb4.size
    have hz5 := hb5.size
    have hw5 : w.heap.size ≤ w5.heap.size := by simp at hz4; omega
    go_wp2
    refine bodyPost_ret (v := .tuple #[.slice A6 (bitsTo (closL rls (propsL (ownL its n))) p).length c6, .int .i64 0]) (by simp [results, Try.results23, go_sem]) rfl ⟨hHeld.below, A6, c6, by rw [HR2.out, ← HPl.out]; rfl, by rw [HR2.out, ← HPl.out]; exact own_weak hown6.out hw5⟩
  · have HR2 := hid (show labelL P its rls item = ([], checkIt P its rls item) by rw [HR.out, if_pos hz])
    generalize checkIt P its rls item = x at *
    have hx : (x != 0) = true := by simp [hz]
    clear hz HR
    go_enter Try.func23, Try.ntmps23
    go_wp2_with fail
    refine HN.out.mono ?_
    rintro e w1 ⟨q1, rfl⟩
    have HS1 := HS0.out.keep q1
    go_wp2
    refine bodyPost_ret (v := .tuple #[.slice none 0 0, .int .i64 x]) (by simp [results, Try.results23, go_sem]) rfl ⟨HS1.below, none, 0, by rw [HR2.out]; rfl, by rw [HR2.out]; exact Own.nil _ _⟩
set_option maxRecDepth 100000 in
set_option maxHeartbeats 4000000 in
theorem rcontains_any (P : Int) (ia : Option Addr) (its : List ItemL) (ic : Nat) (ra : Option Addr) (rls : List RuleL) (rc : Nat) (item : Int) (w : World) (h : BookAt w P ia its ra rls) :
  Calls Try.prog 21 #[.agg #[.int .i64 P, .slice ia its.length ic, .slice ra rls.length rc], .int .i64 item] w (OwnERs w w.heap.size (containsL P its rls item)) := by
  have S0 := ValS.made w P (.slice ia its.length ic) (.slice ra rls.length rc)
  have hA := h.below S0.below
  have HR := hid (show containsL P its rls item = if checkIt P its rls item ≠ 0 then ([], checkIt P its rls item) else (bitsTo (contL its item.toNat) 64, 0) from rfl)
  have HN := hid (rnamed_any P ia its ic ra rls rc item _ hA)
  have HS0 := hid S0
  clear S0
  by_cases hz : checkIt P its rls item = 0
  · have HR2 := hid (show containsL P its rls item = (bitsTo (contL its item.toNat) 64, 0) by rw [HR.out, if_neg (by simp [hz])])
    obtain ⟨hv, hi0, hi1⟩ := checkIt_ok3 hz
    obtain ⟨n, rfl⟩ := Int.eq_ofNat_of_zero_le hi0
    rw [Int.toNat_natCast] at HR2
    obtain ⟨v0, v1, v2, v3, v4, v5⟩ := validB_ok hv
    have HPl := hid (show bitsTo (contL its n) its.length = bitsTo (contL its n) 64 from bitsTo_P (lt_of_sub (contL_bits P its v4 n (by omega))) (by omega))
    have HB := hid (fun (w' : World) (hb : Below w.heap.size w w') => inside_any P ia its ic (.slice ra rls.length rc) n w' (h.below hb).items v2 (by omega) v4)
    rw [hz] at HN
    clear hz HR v0 v1 v4 v5 hv hA h
    go_enter Try.func21, Try.ntmps21
    go_wp2_with fail
    refine HN.out.mono ?_
    rintro e w1 ⟨q1, rfl⟩
    have HS1 := hid (HS0.out.keep q1)
    have a0 := HS1.out.1
    have a1 := HS1.out.2.1
    have a2 := HS1.out.2.2.1
    clear q1 HN
    go_wp2_with fail
    refine (HB.out _ HS1.out.below).mono ?_
    rintro e w2 ⟨q2, A2, c2, rfl, hB2, _⟩
    have HS2 := hid (HS1.out.keep q2)
    go_wp2_with fail
    refine (places_any _ _ _ _ _ hB2 (by omega)).mono ?_
    rintro e w3 ⟨q3, A, c, rfl, hown⟩
    have hS3 := HS2.out.keep q3
    have hz2 := HS2.out.size
    go_wp2
    refine bodyPost_ret (v := .tuple #[.slice A (bitsTo (contL its n) its.length).length c, .int .i64 0]) (by simp [results, Try.results21, go_sem]) rfl ⟨hS3.below, A, c, by rw [HR2.out, ← HPl.out], by rw [HR2.out, ← HPl.out]; exact own_weak hown (by omega)⟩
  · have HR2 := hid (show containsL P its rls item = ([], checkIt P its rls item) by rw [HR.out, if_pos hz])
    generalize checkIt P its rls item = x at *
    have hx : (x != 0) = true := by simp [hz]
    clear hz HR
    go_enter Try.func21, Try.ntmps21
    go_wp2_with fail
    refine HN.out.mono ?_
    rintro e w1 ⟨q1, rfl⟩
    have HS1 := HS0.out.keep q1
    go_wp2
    refine bodyPost_ret (v := .tuple #[.slice none 0 0, .int .i64 x]) (by simp [results, Try.results21, go_sem]) rfl ⟨HS1.below, none, 0, by rw [HR2.out]; rfl, by rw [HR2.out]; exact Own.nil _ _⟩

set_option maxRecDepth 100000 in
set_option maxHeartbeats 4000000 in
theorem rclosure_any (P : Int) (ia : Option Addr) (its : List ItemL) (ic : Nat) (ra : Option Addr) (rls : List RuleL) (rc : Nat) (a : Option Addr) (ps : List Int) (cap : Nat) (w : World) (h : BookAt w P ia its ra rls) (hp : Ints w a ps) :
  Calls Try.prog 27 #[.agg #[.int .i64 P, .slice ia its.length ic, .slice ra rls.length rc], .slice a ps.length cap] w (OwnERs w w.heap.size (closureL P its rls ps)) := by
  have S0 := ValS.made w P (.slice ia its.length ic) (.slice ra rls.length rc)
  have hA := h.below S0.below
  have HR := hid (show closureL P its rls ps = if validB P its rls ≠ 0 then ([], validB P its rls) else if isSetFrom 0 P ps then (bitsTo (closL rls (maskL ps)) 64, 0) else ([], 1) from rfl)
  have HN := hid (rvalidB_any P ia its ic ra rls rc _ hA)
  have HS0 := hid S0
  have HI := hid (fun (w' : World) (hb : Below w.heap.size w w') => risSet_b a cap ps P w' (hp.below hb))
  clear S0
  by_cases hz : validB P its rls = 0
  · have HR2 := hid (show closureL P its rls ps = if isSetFrom 0 P ps then (bitsTo (closL rls (maskL ps)) 64, 0) else ([], 1) by rw [HR.out, if_neg (by simp [hz])])
    obtain ⟨v0, v1, v2, v3, v4, v5⟩ := validB_ok hz
    obtain ⟨p, rfl⟩ := Int.eq_ofNat_of_zero_le v0
    have hp10 : p ≤ 10 := by omega
    rw [hz] at HN
    cases hs : isSetFrom 0 (p : Int) ps with
    | false =>
      have HR3 := hid (show closureL (p : Int) its rls ps = ([], 1) by rw [HR2.out, hs]; rfl)
      rw [hs] at HI
      clear hz HR HR2 v0 v1 v4 v5 hA h hs hp
      go_enter Try.func27, Try.ntmps27
      go_wp2_with fail
      refine HN.out.mono ?_
      rintro e w1 ⟨q1, rfl⟩
      have HS1 := hid (HS0.out.keep q1)
      have a0 := HS1.out.1
      clear q1 HN
      go_wp2_with fail
      refine (HI.out _ HS1.out.below).mono ?_
      rintro e w2 ⟨q2, rfl⟩
      have hS2 := HS1.out.keep q2
      go_wp2
      refine bodyPost_ret (v := .tuple #[.slice none 0 0, .int .i64 1]) (by simp [results, Try.results27, go_sem]) rfl ⟨hS2.below, none, 0, by rw [HR3.out]; rfl, by rw [HR3.out]; exact Own.nil _ _⟩
    | true =>
      have hRP := rulesP_of v5
      have hsm := isSetFrom_ge _ _ _ hs
      have hmp := maskL_ltP hsm
      have HPl := hid (show bitsTo (closL rls (maskL ps)) p = bitsTo (closL rls (maskL ps)) 64 from bitsTo_P (closL_ltP hRP hp10 _ hmp) (by omega))
      have HR3 := hid (show closureL (p : Int) its rls ps = (bitsTo (closL rls (maskL ps)) p, 0) by rw [HR2.out, hs, HPl.out]; rfl)
      have HM := hid (fun (w' : World) (hb : Below w.heap.size w w') => marks_any a ps cap p w' (hp.below hb) hsm (by omega))
      have HC := hid (fun (w' : World) (hb : Below w.heap.size w w') (A : Option Addr) (c : Nat) (hA : BoolsAt w' A p (maskL ps)) => closed_any ra rls rc A p (maskL ps) c w' (h.below hb).rules hA hp10 hmp (fun r hr => hRP r hr))
      rw [hs] at HI
      clear hz HR HR2 v0 v1 v4 v5 hA h hs hp hRP hsm hmp HPl
      go_enter Try.func27, Try.ntmps27
      go_wp2_with fail
      refine HN.out.mono ?_
      rintro e w1 ⟨q1, rfl⟩
      have HS1 := hid (HS0.out.keep q1)
      have a0 := HS1.out.1
      clear q1 HN
      go_wp2_with fail
      refine (HI.out _ HS1.out.below).mono ?_
      rintro e w2 ⟨q2, rfl⟩
      have HS2 := hid (HS1.out.keep q2)
      clear a0 q2 HI
      go_wp2
      go_region_held3 (fun w' => w'.cell? ⟨w.heap.size, 0, none⟩ = some (.int .i64 (p : Int)) ∧ w'.cell? ⟨w.heap.size, 1, none⟩ = some (.slice ia its.length ic) ∧ w'.cell? ⟨w.heap.size, 2, none⟩ = some (.slice ra rls.length rc) ∧ Below w.heap.size w w') (first | exact HS2.out.drew | exact HS2.out | exact ValS.keep (by assumption) (by assumption))
        (first | (go_at_call 63; refine (HM.out _ ?_).mono ?_; (exact ValS.below (by assumption)); rintro en w4 ⟨hb4, g4, c4, rfl, hB4'⟩; have hB4 := hid (hB4'.at_ (by omega)); clear hB4') | (go_at_call 59; refine (HC.out _ ?_ _ _ (by first | exact hB4.out | exact BoolsAt.drew hB4.out)).mono ?_; (exact ValS.below (by assumption)); rintro en w5 ⟨hb5, A5, c5, rfl, hB5', _⟩; have hB5 := hid hB5'; clear hB5') | (go_at_call 56; refine (places_any _ _ _ _ _ (by first | exact hB5.out | exact BoolsAt.drew hB5.out) (by omega)).mono ?_; rintro en w6 ⟨hb6, A6, c6, rfl, hown6'⟩; have hown6 := hid hown6'; clear hown6'))
      have hHeld : ValS w (p : Int) (.slice ia its.length ic) (.slice ra rls.length rc) w6 := by assumption
      have hz1 := HS2.out.size
      have hz4 := hb4.size
      have hz5 := hb5.size
      have hw5 : w.heap.size ≤ w5.heap.size := by simp at hz4; omega
      go_wp2
      refine bodyPost_ret (v := .tuple #[.slice A6 (bitsTo (closL rls (maskL ps)) p).length c6, .int .i64 0]) (by simp [results, Try.results27, go_sem]) rfl ⟨hHeld.below, A6, c6, by rw [HR3.out], by rw [HR3.out]; exact own_weak hown6.out hw5⟩
  · have HR2 := hid (show closureL P its rls ps = ([], validB P its rls) by rw [HR.out, if_pos hz])
    generalize validB P its rls = x at *
    have hx : (x != 0) = true := by simp [hz]
    clear hz HR
    go_enter Try.func27, Try.ntmps27
    go_wp2_with fail
    refine HN.out.mono ?_
    rintro e w1 ⟨q1, rfl⟩
    have HS1 := HS0.out.keep q1
    go_wp2
    refine bodyPost_ret (v := .tuple #[.slice none 0 0, .int .i64 x]) (by simp [results, Try.results27, go_sem]) rfl ⟨HS1.below, none, 0, by rw [HR2.out]; rfl, by rw [HR2.out]; exact Own.nil _ _⟩
end Go.Proofs.Ytdgleicpcjfnoaa
