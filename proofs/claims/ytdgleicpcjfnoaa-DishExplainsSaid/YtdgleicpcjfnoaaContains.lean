/- The Go function Contains of package dish. -/
import Derived.Test.YtdgleicpcjfnoaaLabel
set_option linter.unusedVariables false
namespace Go.Proofs.Ytdgleicpcjfnoaa
open Go.RowKit

def containsL (P : Int) (its : List ItemL) (rls : List RuleL) (item : Int) : List Int × Int :=
  if checkIt P its rls item ≠ 0 then ([], checkIt P its rls item) else (bitsTo (contL its item.toNat) 64, 0)
theorem checkIt_ok3 {P : Int} {its : List ItemL} {rls : List RuleL} {item : Int} (hz : checkIt P its rls item = 0) : validB P its rls = 0 ∧ 0 ≤ item ∧ item < (its.length : Int) := by
  unfold checkIt at hz
  split at hz
  · exact absurd hz ‹_›
  · split at hz
    · exact ⟨by simp_all, ‹_›⟩
    · cases hz

set_option maxRecDepth 100000 in
set_option maxHeartbeats 4000000 in
theorem containsE_any (P : Int) (ia : Option Addr) (its : List ItemL) (ic : Nat) (ra : Option Addr) (rls : List RuleL) (rc : Nat) (item : Int) (w : World) (h : BookAt w P ia its ra rls) :
  Calls Try.prog 20 #[.agg #[.int .i64 P, .slice ia its.length ic, .slice ra rls.length rc], .int .i64 item] w (OwnERs w w.heap.size (containsL P its rls item)) := by
  have hB := (Below.refl w.heap.size w).alloc (Nat.le_refl _) (.cells #[.int .i64 P, .slice ia its.length ic, .slice ra rls.length rc] 25)
  have hA := h.below hB
  go_enter Try.func20, Try.ntmps20
  go_wp2_with fail
  refine (checkItem_any _ _ _ _ _ _ _ _ _ hA).mono ?_
  rintro e w1 ⟨q1, rfl⟩
  have p1 := hB.trans (q1.mono (by simp))
  have hs1 := q1.size
  simp only [World.size_alloc] at hs1
  have a0 : w1.cell? ⟨w.heap.size, 0, none⟩ = some (.int .i64 P) := by rw [q1.cell (by simp)]; go_simp
  have a1 : w1.cell? ⟨w.heap.size, 1, none⟩ = some (.slice ia its.length ic) := by rw [q1.cell (by simp)]; go_simp
  have a2 : w1.cell? ⟨w.heap.size, 2, none⟩ = some (.slice ra rls.length rc) := by rw [q1.cell (by simp)]; go_simp
  have HR := hid (show containsL P its rls item = if checkIt P its rls item ≠ 0 then ([], checkIt P its rls item) else (bitsTo (contL its item.toNat) 64, 0) from rfl)
  by_cases hz : checkIt P its rls item = 0
  · have HR2 := hid (show containsL P its rls item = (numsL (contL its item.toNat), 0) by rw [HR.out, if_neg (by simp [hz])]; rfl)
    obtain ⟨hv, hi0, hi1⟩ := checkIt_ok3 hz
    obtain ⟨n, rfl⟩ := Int.eq_ofNat_of_zero_le hi0
    rw [Int.toNat_natCast] at HR2
    obtain ⟨v0, v1, v2, v3, v4, v5⟩ := validB_ok hv
    have HL := hid (contained_any P ia its ic (.slice ra rls.length rc) n w1 (h.below p1).items v2 (by omega) v4)
    rw [hz]
    clear hA HR
    go_wp2_with fail
    refine HL.out.mono ?_
    rintro e w2 ⟨q2, hlt, rfl⟩
    have p2 := p1.trans (q2.mono p1.size)
    have hs2 := q2.size
    go_wp2_with fail
    refine (numbers_any _ _ (by omega)).mono ?_
    rintro e w3 ⟨q3, A, c, rfl, hown⟩
    have p3 := p2.trans (q3.mono p2.size)
    have hq3 := q3.size
    go_wp2
    refine bodyPost_ret (v := .tuple #[.slice A (numsL (contL its n)).length c, .int .i64 0]) (by simp [results, Try.results20, go_sem]) rfl ⟨p3, A, c, by rw [HR2.out], by rw [HR2.out]; exact own_weak hown (by omega)⟩
  · have HR2 := hid (show containsL P its rls item = ([], checkIt P its rls item) by rw [HR.out, if_pos hz])
    generalize checkIt P its rls item = x at *
    have hx : (x != 0) = true := by simp [hz]
    go_wp2
    refine bodyPost_ret (v := .tuple #[.slice none 0 0, .int .i64 x]) (by simp [results, Try.results20, go_sem]) rfl ⟨p1, none, 0, by rw [HR2.out]; rfl, by rw [HR2.out]; exact Own.nil _ _⟩

end Go.Proofs.Ytdgleicpcjfnoaa
