/- The Go functions label, Label of package dish. -/
import Derived.Test.YtdgleicpcjfnoaaRuleSteps
import Derived.Test.YtdgleicpcjfnoaaTMenus
import Derived.Deep.RegionHeld3
set_option linter.unusedVariables false
namespace Go.Proofs.Ytdgleicpcjfnoaa
open Go.RowKit

/-- What the calls of label keep. -/
def LabS (w : World) (P : Int) (i r : Value) (w' : World) : Prop :=
  w'.cell? ⟨w.heap.size, 0, none⟩ = some (.int .i64 P) ∧ w'.cell? ⟨w.heap.size, 1, none⟩ = some i ∧ w'.cell? ⟨w.heap.size, 2, none⟩ = some r ∧ Below w.heap.size w w'
section
variable {w : World} {P : Int} {i r : Value}
theorem LabS.below {w' : World} (h : LabS w P i r w') : Below w.heap.size w w' := h.2.2.2
theorem LabS.drew {w' : World} (h : LabS w P i r w') : LabS w P i r w'.drew := by
  obtain ⟨a0, a1, a2, p⟩ := h
  exact ⟨a0, a1, a2, p.drew⟩
theorem LabS.keep {w' w2 : World} (h : LabS w P i r w') (hb : Below w'.heap.size w' w2) : LabS w P i r w2 := by
  obtain ⟨a0, a1, a2, p⟩ := h
  refine ⟨?_, ?_, ?_, p.trans (hb.mono p.size)⟩
  · rw [hb.cell (cell_lt a0)]; exact a0
  · rw [hb.cell (cell_lt a1)]; exact a1
  · rw [hb.cell (cell_lt a2)]; exact a2
end
theorem StepsAt.drew {w : World} {a : Option Addr} {l : List StepL} (h : StepsAt w a l) : StepsAt w.drew a l := h.below (Below.refl _ _).drew
theorem steps64 {l : List StepL} (h : StepsOk 10 l) : StepsOk 64 l := fun s hs => ⟨(h s hs).1, by have := (h s hs).2; omega⟩
theorem props10 {l : List StepL} (h : StepsOk 10 l) : propsL l < 2 ^ 10 := propsL_lt 10 l (fun s hs => by have := h s hs; omega)

set_option maxRecDepth 100000 in
set_option maxHeartbeats 4000000 in
theorem label_any (P : Int) (ia : Option Addr) (its : List ItemL) (ic : Nat) (ra : Option Addr) (rls : List RuleL) (rc : Nat) (n : Nat) (w : World) (h : BookAt w P ia its ra rls) (hv : validB P its rls = 0) (hn : n < its.length) :
  Calls Try.prog 58 #[.agg #[.int .i64 P, .slice ia its.length ic, .slice ra rls.length rc], .int .i64 n] w (fun en w' => Below w.heap.size w w' ∧ labM its rls n < 2 ^ 10 ∧ en = .returned (.int .u64 (labM its rls n))) := by
  obtain ⟨v0, v1, v2, v3, v4, v5⟩ := validB_ok hv
  have HO := hid (fun (w' : World) (hb : Below w.heap.size w w') => ownSteps_any P ia its ic (.slice ra rls.length rc) n w' (h.below hb).items v1 v2 hn v4)
  have HC := hid (fun (w' : World) (hb : Below w.heap.size w w') (hok : StepsOk 10 (ownL its n)) => closure_any P ra rls rc (propsL (ownL its n)) w' (h.below hb).rules v1 v3 v5 (props10 hok))
  have HRes := hid (show labM its rls n = closL rls (propsL (ownL its n)) from rfl)
  have S0 := hid (show LabS w P (.slice ia its.length ic) (.slice ra rls.length rc) (w.alloc (.cells #[.int .i64 P, .slice ia its.length ic, .slice ra rls.length rc] 25)) from
    ⟨by go_simp, by go_simp, by go_simp, (Below.refl w.heap.size w).alloc (Nat.le_refl _) _⟩)
  clear h hv v4 v5
  go_enter Try.func58, Try.ntmps58
  go_wp2_with fail
  go_region_held3 (fun w' => w'.cell? ⟨w.heap.size, 0, none⟩ = some (.int .i64 P) ∧ w'.cell? ⟨w.heap.size, 1, none⟩ = some (.slice ia its.length ic) ∧ w'.cell? ⟨w.heap.size, 2, none⟩ = some (.slice ra rls.length rc) ∧ Below w.heap.size w w') (first | exact S0.out.drew | exact S0.out | exact LabS.keep (by assumption) (by assumption))
    (first | (go_at_call 68; refine (HO.out _ ?_).mono ?_; (exact LabS.below (by assumption)); rintro en w4 ⟨⟨hb4, A4, c4, rfl, hown4⟩, hok4', hfr4⟩; have hst4 := hid (hown4.at_ (by have := hfr4.len; omega)); have hok4 := hid hok4'; clear hown4 hok4' hfr4) | (go_at_call 70; refine (propsOf_any _ _ _ _ (by first | exact hst4.out | exact StepsAt.drew hst4.out) (steps64 hok4.out)).mono ?_; rintro en w5 ⟨hb5, rfl⟩) | (go_at_call 61; refine (HC.out _ ?_ hok4.out).mono ?_; (exact LabS.below (by assumption)); rintro en w6 ⟨hb6, hlt6', rfl⟩; have hlt6 := hid hlt6'; clear hlt6'))
  have hHeld : LabS w P (.slice ia its.length ic) (.slice ra rls.length rc) w6 := by assumption
  go_wp2
  go_ret
  rw [HRes.out]
  exact ⟨hHeld.below, hlt6.out, rfl⟩

set_option maxRecDepth 100000 in
set_option maxHeartbeats 4000000 in
theorem labelE_any (P : Int) (ia : Option Addr) (its : List ItemL) (ic : Nat) (ra : Option Addr) (rls : List RuleL) (rc : Nat) (item : Int) (w : World) (h : BookAt w P ia its ra rls) :
  Calls Try.prog 22 #[.agg #[.int .i64 P, .slice ia its.length ic, .slice ra rls.length rc], .int .i64 item] w (OwnERs w w.heap.size (labelL P its rls item)) := by
  have hB := (Below.refl w.heap.size w).alloc (Nat.le_refl _) (.cells #[.int .i64 P, .slice ia its.length ic, .slice ra rls.length rc] 25)
  have hA := h.below hB
  go_enter Try.func22, Try.ntmps22
  go_wp2_with fail
  refine (checkItem_any _ _ _ _ _ _ _ _ _ hA).mono ?_
  rintro e w1 ⟨q1, rfl⟩
  have p1 := hB.trans (q1.mono (by simp))
  have hs1 := q1.size
  simp only [World.size_alloc] at hs1
  have a0 : w1.cell? ⟨w.heap.size, 0, none⟩ = some (.int .i64 P) := by rw [q1.cell (by simp)]; go_simp
  have a1 : w1.cell? ⟨w.heap.size, 1, none⟩ = some (.slice ia its.length ic) := by rw [q1.cell (by simp)]; go_simp
  have a2 : w1.cell? ⟨w.heap.size, 2, none⟩ = some (.slice ra rls.length rc) := by rw [q1.cell (by simp)]; go_simp
  have HR := hid (show labelL P its rls item = if checkIt P its rls item ≠ 0 then ([], checkIt P its rls item) else (bitsTo (labM its rls item.toNat) 64, 0) from rfl)
  by_cases hz : checkIt P its rls item = 0
  · have HR2 := hid (show labelL P its rls item = (numsL (labM its rls item.toNat), 0) by rw [HR.out, if_neg (by simp [hz])]; rfl)
    obtain ⟨hv, hi0, hi1⟩ : validB P its rls = 0 ∧ 0 ≤ item ∧ item < (its.length : Int) := by
      unfold checkIt at hz
      split at hz
      · exact absurd hz ‹_›
      · split at hz
        · exact ⟨by simp_all, ‹_›⟩
        · cases hz
    obtain ⟨n, rfl⟩ := Int.eq_ofNat_of_zero_le hi0
    rw [Int.toNat_natCast] at HR2
    have HL := hid (label_any P ia its ic ra rls rc n w1 (h.below p1) hv (by omega))
    rw [hz]
    clear hA HR
    go_wp2_with fail
    refine HL.out.mono ?_
    rintro e w2 ⟨q2, hlt, rfl⟩
    have p2 := p1.trans (q2.mono p1.size)
    have hs2 := q2.size
    go_wp2_with fail
    refine (numbers_any _ _ (by omega)).mono ?_
    rintro e w3 ⟨q3, A, c, rfl, hown⟩
    have p3 := p2.trans (q3.mono p2.size)
    have hq3 := q3.size
    go_wp2
    refine bodyPost_ret (v := .tuple #[.slice A (numsL (labM its rls n)).length c, .int .i64 0]) (by simp [results, Try.results22, go_sem]) rfl ⟨p3, A, c, by rw [HR2.out], by rw [HR2.out]; exact own_weak hown (by omega)⟩
  · have HR2 := hid (show labelL P its rls item = ([], checkIt P its rls item) by rw [HR.out, if_pos hz])
    generalize checkIt P its rls item = x at *
    have hx : (x != 0) = true := by simp [hz]
    go_wp2
    refine bodyPost_ret (v := .tuple #[.slice none 0 0, .int .i64 x]) (by simp [results, Try.results22, go_sem]) rfl ⟨p1, none, 0, by rw [HR2.out]; rfl, by rw [HR2.out]; exact Own.nil _ _⟩

end Go.Proofs.Ytdgleicpcjfnoaa
