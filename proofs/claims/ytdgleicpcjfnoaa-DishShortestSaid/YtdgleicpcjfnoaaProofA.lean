/- What is asked of a proof: checkProp of package dish, slices.Contains. -/
import Derived.Test.YtdgleicpcjfnoaaBook
import Derived.Test.YtdgleicpcjfnoaaProofN
set_option linter.unusedVariables false
namespace Go.Proofs.Ytdgleicpcjfnoaa
open Go.RowKit

set_option maxRecDepth 100000 in
set_option maxHeartbeats 1000000 in
theorem checkProp_any (P : Int) (ia : Option Addr) (its : List ItemL) (ic : Nat) (ra : Option Addr) (rls : List RuleL) (rc : Nat) (item prop : Int) (w : World) (h : BookAt w P ia its ra rls) :
  Calls Try.prog 64 #[.agg #[.int .i64 P, .slice ia its.length ic, .slice ra rls.length rc], .int .i64 item, .int .i64 prop] w (IntR w (propE P its rls item prop)) := by
  have hB := (Below.refl w.heap.size w).alloc (Nat.le_refl _) (.cells #[.int .i64 P, .slice ia its.length ic, .slice ra rls.length rc] 25)
  have HB := hid hB
  have HC := hid (checkItem_any P ia its ic ra rls rc item _ (h.below hB))
  have HP := hid (fun w => isProp_any P (.slice ia its.length ic) (.slice ra rls.length rc) prop w)
  have HE := hid (show propE P its rls item prop = if checkIt P its rls item = 0 then (if 0 ≤ prop ∧ prop < P then 0 else 5) else checkIt P its rls item from rfl)
  have c0 : (w.alloc (.cells #[.int .i64 P, .slice ia its.length ic, .slice ra rls.length rc] 25)).cell? ⟨w.heap.size, 0, none⟩ = some (.int .i64 P) := by go_simp
  have c1 : (w.alloc (.cells #[.int .i64 P, .slice ia its.length ic, .slice ra rls.length rc] 25)).cell? ⟨w.heap.size, 1, none⟩ = some (.slice ia its.length ic) := by go_simp
  have c2 : (w.alloc (.cells #[.int .i64 P, .slice ia its.length ic, .slice ra rls.length rc] 25)).cell? ⟨w.heap.size, 2, none⟩ = some (.slice ra rls.length rc) := by go_simp
  have hz : w.heap.size < (w.alloc (.cells #[.int .i64 P, .slice ia its.length ic, .slice ra rls.length rc] 25)).heap.size := by simp
  clear h hB
  by_cases h0 : checkIt P its rls item = 0
  · have HE := hid ((HE.out).trans (if_pos h0))
    rw [h0] at HC
    clear h0
    by_cases hp : 0 ≤ prop ∧ prop < P
    · have HX := hid ((HE.out).trans (if_pos hp))
      rw [decide_eq_true hp] at HP
      clear hp
      go_enter Try.func64, Try.ntmps64
      go_wp2_with fail
      generalize w.alloc (.cells #[.int .i64 P, .slice ia its.length ic, .slice ra rls.length rc] 25) = W0 at *
      refine HC.out.mono ?_
      rintro e w1 ⟨q1, rfl⟩
      rw [← q1.cell (by simpa using hz)] at c0 c1 c2
      go_wp2_with fail
      refine (HP.out _).mono ?_
      rintro e w2 ⟨q2, rfl⟩
      go_wp2
      go_ret
      exact ⟨(HB.out.trans (q1.mono (by omega))).trans (q2.mono (by have := q1.size; omega)), ret_int (by rw [HX.out])⟩
    · have HX := hid ((HE.out).trans (if_neg hp))
      rw [decide_eq_false hp] at HP
      clear hp
      go_enter Try.func64, Try.ntmps64
      go_wp2_with fail
      generalize w.alloc (.cells #[.int .i64 P, .slice ia its.length ic, .slice ra rls.length rc] 25) = W0 at *
      refine HC.out.mono ?_
      rintro e w1 ⟨q1, rfl⟩
      rw [← q1.cell (by simpa using hz)] at c0 c1 c2
      go_wp2_with fail
      refine (HP.out _).mono ?_
      rintro e w2 ⟨q2, rfl⟩
      go_wp2
      go_ret
      exact ⟨(HB.out.trans (q1.mono (by omega))).trans (q2.mono (by have := q1.size; omega)), ret_int (by rw [HX.out])⟩
  · have HX := hid ((HE.out).trans (if_neg h0))
    have h0' : (checkIt P its rls item != 0) = true := by simp [h0]
    clear h0
    generalize checkIt P its rls item = x at *
    go_enter Try.func64, Try.ntmps64
    go_wp2_with fail
    refine HC.out.mono ?_
    rintro e w1 ⟨q1, rfl⟩
    go_wp2
    go_ret
    exact ⟨HB.out.trans (q1.mono (by simp)), ret_int (by rw [HX.out])⟩

set_option maxHeartbeats 1000000 in
theorem indexI_any (a : Option Addr) (xs : List Int) (cap : Nat) (v : Int) (w : World) (h : Ints w a xs) :
  Calls Try.prog 113 #[.slice a xs.length cap, .int .i64 v] w fun e w' => w = w' ∧ ∃ z : Int, e = .returned (.int .i64 z) ∧ (0 ≤ z ↔ v ∈ xs) := by
  have hlen := h.len
  have HH := hid h
  clear h
  go_enter Try.func113, Try.ntmps113
  go_wp2
  go_loopw [8] (fun i wr => ∃ k : Nat, k ≤ xs.length ∧ i = .int .i64 k ∧ wr = w ∧ Hid (∀ j, j < k → xs[j]?.getD 0 ≠ v)) (fun i _ => xs.length - (intOf i).toNat)
  case atStart => exact ⟨0, Nat.zero_le _, rfl, rfl, fun j hj => by omega⟩
  case round =>
    obtain ⟨k, hk, rfl, rfl, HN⟩ := hrel
    by_cases hlt : k < xs.length
    · rcases HH.out.at_ with e | ⟨b, off, rfl, hc⟩
      · rw [e] at hlt; simp at hlt
      have c0 := hc k hlt
      have i0 : (0 : Int) ≤ (k : Int) := by omega
      have i1 : (k : Int) < (xs.length : Int) := by omega
      have HM := hid (show xs[k]?.getD 0 ∈ xs by rw [List.getElem?_eq_getElem hlt]; simp)
      have HS := hid (show xs[k]?.getD 0 ≠ v → ∀ j, j < k + 1 → xs[j]?.getD 0 ≠ v from fun hx j hj => by
        by_cases e : j = k
        · subst e; exact hx
        · exact HN.out j (by omega))
      clear hc
      generalize xs[k]?.getD 0 = x at *
      by_cases hx : v = x
      · have hb : (v == x) = true := by simp [hx]
        have HV := hid hx
        clear hx
        go_wp2
        go_ret
        exact ⟨rfl, (k : Int), rfl, ⟨fun _ => by rw [HV.out]; exact HM.out, fun _ => i0⟩⟩
      · have hb : (v == x) = false := by simp [hx]
        have HX := hid (HS.out (fun e => hx e.symm))
        clear hx
        go_wp2
        go_roundw
        case rel => exact ⟨k + 1, by omega, by go_num, by first | rfl | trivial, HX⟩
        case measure => simp [intOf]; omega
    · obtain rfl : k = xs.length := by omega
      go_wp2
      go_ret
      refine ⟨rfl, -1, rfl, ⟨fun h => absurd h (by decide), fun hm => ?_⟩⟩
      obtain ⟨j, hj, e⟩ := List.getElem_of_mem hm
      exact absurd (by rw [List.getElem?_eq_getElem hj]; exact e) (HN.out j hj)
def SaysM (w : World) (b : Bool) (en : Ending) (w' : World) : Prop := w = w' ∧ en = .returned (.bool b)
set_option maxHeartbeats 1000000 in
theorem containsI_any (a : Option Addr) (xs : List Int) (cap : Nat) (v : Int) (w : World) (h : Ints w a xs) :
  Calls Try.prog 99 #[.slice a xs.length cap, .int .i64 v] w (SaysM w (decide (v ∈ xs))) := by
  have HI := hid (indexI_any a xs cap v w h)
  clear h
  go_enter Try.func99, Try.ntmps99
  go_wp2_with fail
  refine HI.out.mono ?_
  rintro e w' ⟨rfl, z, rfl, hz⟩
  have hd : decide (v ∈ xs) = decide (0 ≤ z) := by rw [Bool.eq_iff_iff]; simp [hz]
  have HDd := hid hd
  clear hz hd
  go_wp2
  go_ret
  exact ⟨rfl, by rw [HDd.out]; rfl⟩
end Go.Proofs.Ytdgleicpcjfnoaa
