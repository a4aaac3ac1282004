/- The document's own answers: sets, valid terms, school days. -/
import Derived.Test.YtilolaednbcaoaaRef
import Derived.Test.YtilolaednbcaoaaRefM
set_option linter.unusedVariables false
namespace Go.Proofs.Ytilolaednbcaoaa
open Go.RowKit

set_option maxRecDepth 100000 in
set_option maxHeartbeats 2000000 in
theorem rvalidate_any (L : Int) (ra : Option Addr) (rs : List Int) (rc : Nat) (ca : Option Addr) (cs : List Int) (cc : Nat) (w : World) (h : TermAt w L ra rs ca cs) :
  Calls Try.prog 38 #[.agg #[.int .i64 L, .slice ra rs.length rc, .slice ca cs.length cc]] w (IntR w (validT L rs cs)) := by
  have hl1 := h.rest.len
  have hl2 := h.closed.len
  have hA := h.alloc (.cells #[.int .i64 L, .slice ra rs.length rc, .slice ca cs.length cc] 24)
  have hB := (Below.refl w.heap.size w).alloc (Nat.le_refl _) (.cells #[.int .i64 L, .slice ra rs.length rc, .slice ca cs.length cc] 24)
  cases h1 : inB L 1 1000 with
  | false =>
    have HR := hid (show validT L rs cs = 1 by simp [inB] at h1; rw [validT, if_pos (by omega)])
    go_enter Try.func38, Try.ntmps38
    go_wp2_with (go_at_call 41; refine (within_any _ _ _ _).mono ?_; rintro e w' ⟨rfl, rfl⟩)
    go_ret
    exact ⟨hB, ret_int HR.out.symm⟩
  | true =>
    have hL : 1 ≤ L ∧ L ≤ 1000 := by simpa [inB] using h1
    cases hS : isSetFrom 0 7 rs with
    | false =>
      have HR := hid (show validT L rs cs = 1 by rw [validT, if_neg (by omega), if_pos (.inr hS)])
      go_enter Try.func38, Try.ntmps38
      go_wp2_with fail
      refine (within_any _ _ _ _).mono ?_
      rintro e w' ⟨rfl, rfl⟩
      rw [h1]
      go_wp2_with fail
      refine (risSet_any _ _ _ _ _ hA.rest).mono ?_
      rintro e w' ⟨n, rfl, rfl⟩
      rw [show (6 : Int) + 1 = 7 from rfl, hS]
      go_wp2
      go_ret
      exact ⟨below_drewN hB n, ret_int HR.out.symm⟩
    | true =>
      by_cases h7 : rs.length = 7
      · have HR := hid (show validT L rs cs = 1 by rw [validT, if_neg (by omega), if_pos (.inl h7)])
        have h7' : ((rs.length : Int) == 7) = true := by simp; omega
        clear h7
        go_enter Try.func38, Try.ntmps38
        go_wp2_with fail
        refine (within_any _ _ _ _).mono ?_
        rintro e w' ⟨rfl, rfl⟩
        rw [h1]
        go_wp2_with fail
        refine (risSet_any _ _ _ _ _ hA.rest).mono ?_
        rintro e w' ⟨n, rfl, rfl⟩
        rw [show (6 : Int) + 1 = 7 from rfl, hS]
        go_wp2
        go_ret
        exact ⟨below_drewN hB n, ret_int HR.out.symm⟩
      · have h7' : ((rs.length : Int) == 7) = false := by simp; omega
        by_cases h60 : 60 < cs.length
        · have HR := hid (show validT L rs cs = 4 by rw [validT, if_neg (by omega), if_neg (by simp [h7, hS]), if_pos h60])
          have h60' : (60 : Int) < (cs.length : Int) := by omega
          go_enter Try.func38, Try.ntmps38
          go_wp2_with fail
          refine (within_any _ _ _ _).mono ?_
          rintro e w' ⟨rfl, rfl⟩
          rw [h1]
          go_wp2_with fail
          refine (risSet_any _ _ _ _ _ hA.rest).mono ?_
          rintro e w' ⟨n, rfl, rfl⟩
          rw [show (6 : Int) + 1 = 7 from rfl, hS]
          go_wp2
          go_ret
          exact ⟨below_drewN hB n, ret_int HR.out.symm⟩
        · have h60' : (cs.length : Int) ≤ 60 := by omega
          have HR := hid (show validT L rs cs = if isSetFrom 0 L cs = false then 1 else 0 by rw [validT, if_neg (by omega), if_neg (by simp [h7, hS]), if_neg h60])
          cases hC : isSetFrom 0 L cs
          all_goals
            go_enter Try.func38, Try.ntmps38
            go_wp2_with fail
            refine (within_any _ _ _ _).mono ?_
            rintro e w' ⟨rfl, rfl⟩
            rw [h1]
            go_wp2_with fail
            refine (risSet_any _ _ _ _ _ hA.rest).mono ?_
            rintro e w' ⟨n, rfl, rfl⟩
            rw [show (6 : Int) + 1 = 7 from rfl, hS]
            go_wp2_with fail
            refine (risSet_any _ _ _ _ _ (hA.closed.below (below_drewN (Below.refl _ _) n))).mono ?_
            rintro e w' ⟨n2, rfl, rfl⟩
            rw [show (L - 1) + 1 = L from by omega, hC]
            go_wp2
            go_ret
            exact ⟨below_drewN hB (n + n2), ret_int (by rw [HR.out, hC]; rfl)⟩

set_option maxRecDepth 100000 in
set_option maxHeartbeats 1000000 in
theorem rweekDay_any (L : Int) (ra : Option Addr) (rs : List Int) (rc : Nat) (ca : Option Addr) (cs : List Int) (cc : Nat) (d : Int) (w : World) (h : TermAt w L ra rs ca cs) (h0 : 0 ≤ d) :
  Calls Try.prog 51 #[.agg #[.int .i64 L, .slice ra rs.length rc, .slice ca cs.length cc], .int .i64 d] w (BoolR w (!memB (d % 7) rs)) := by
  have hA := h.alloc (.cells #[.int .i64 L, .slice ra rs.length rc, .slice ca cs.length cc] 24)
  have hB := (Below.refl w.heap.size w).alloc (Nat.le_refl _) (.cells #[.int .i64 L, .slice ra rs.length rc, .slice ca cs.length cc] 24)
  go_enter Try.func51, Try.ntmps51
  go_wp2_with fail
  refine (has_any _ _ _ _ _ hA.rest).mono ?_
  rintro e w' ⟨rfl, rfl⟩
  go_wp2
  go_ret
  exact ⟨hB, rfl⟩

set_option maxRecDepth 100000 in
set_option maxHeartbeats 1000000 in
theorem ropen_any (L : Int) (ra : Option Addr) (rs : List Int) (rc : Nat) (ca : Option Addr) (cs : List Int) (cc : Nat) (d : Int) (w : World) (h : TermAt w L ra rs ca cs) (h0 : 0 ≤ d) :
  Calls Try.prog 39 #[.agg #[.int .i64 L, .slice ra rs.length rc, .slice ca cs.length cc], .int .i64 d] w (BoolR w (openB rs cs d)) := by
  have hA := h.alloc (.cells #[.int .i64 L, .slice ra rs.length rc, .slice ca cs.length cc] 24)
  have hB := (Below.refl w.heap.size w).alloc (Nat.le_refl _) (.cells #[.int .i64 L, .slice ra rs.length rc, .slice ca cs.length cc] 24)
  cases hm : memB (d % 7) rs with
  | true =>
    have HR := hid (show openB rs cs d = false by simp [openB, hm])
    go_enter Try.func39, Try.ntmps39
    go_wp2_with fail
    refine (rweekDay_any _ _ _ _ _ _ _ _ _ hA h0).mono ?_
    rintro e w1 ⟨hb, rfl⟩
    have hb1 := hB.trans (hb.mono (by simp))
    rw [hm]
    go_wp2
    go_ret
    exact ⟨hb1, ret_bool HR.out.symm⟩
  | false =>
    have HR := hid (show openB rs cs d = !memB d cs by simp [openB, hm])
    go_enter Try.func39, Try.ntmps39
    go_wp2_with fail
    refine (rweekDay_any _ _ _ _ _ _ _ _ _ hA h0).mono ?_
    rintro e w1 ⟨hb, rfl⟩
    have hb1 := hB.trans (hb.mono (by simp))
    obtain ⟨d1, d2⟩ := bcell hb
    have hT := hA.below hb
    simp only [World.size_alloc] at d1 d2
    rw [hm]
    go_wp2_with fail
    refine (has_any _ _ _ _ _ hT.closed).mono ?_
    rintro e w' ⟨rfl, rfl⟩
    go_wp2
    go_ret
    exact ⟨hb1, ret_bool (by rw [HR.out])⟩

set_option maxRecDepth 100000 in
set_option maxHeartbeats 1000000 in
theorem both_any (L : Int) (ra : Option Addr) (rs : List Int) (rc : Nat) (ca : Option Addr) (cs : List Int) (cc : Nat) (m f k : Int) (w : World) (h : TermAt w L ra rs ca cs) :
  Calls Try.prog 46 #[.agg #[.int .i64 L, .slice ra rs.length rc, .slice ca cs.length cc], .agg #[.int .i64 m, .int .i64 f, .int .i64 k]] w (IntR w (checkC L rs cs [(m, f, k)])) := by
  have hB := ((Below.refl w.heap.size w).alloc (Nat.le_refl _) (.cells #[.int .i64 L, .slice ra rs.length rc, .slice ca cs.length cc] 24)).alloc (by simp) (.cells #[.int .i64 m, .int .i64 f, .int .i64 k] 38)
  have hA := h.below hB
  by_cases hz : validT L rs cs = 0
  · have hz' : (validT L rs cs != 0) = false := by simp [hz]
    have HR := hid (show checkC L rs cs [(m, f, k)] = validC m f k by rw [checkC, if_neg (by simp [hz])]; simp [anyBadC, validC])
    clear hz
    go_enter Try.func46, Try.ntmps46
    go_wp2_with fail
    refine (rvalidate_any _ _ _ _ _ _ _ _ hA).mono ?_
    rintro e w1 ⟨hb, rfl⟩
    have hb1 := hB.trans (hb.mono (by simp; omega))
    obtain ⟨d1, d2⟩ := bcell hb
    simp only [World.size_alloc] at d1 d2
    go_wp2_with fail
    refine (rvalidateCycle_any _ _ _ _).mono ?_
    rintro e w2 ⟨hb2, rfl⟩
    go_wp2
    go_ret
    exact ⟨hb1.trans (hb2.mono hb1.size), ret_int HR.out.symm⟩
  · have hz' : (validT L rs cs != 0) = true := by simp [hz]
    have HR := hid (show checkC L rs cs [(m, f, k)] = validT L rs cs by rw [checkC, if_pos hz])
    clear hz
    go_enter Try.func46, Try.ntmps46
    go_wp2_with fail
    refine (rvalidate_any _ _ _ _ _ _ _ _ hA).mono ?_
    rintro e w1 ⟨hb, rfl⟩
    have hb1 := hB.trans (hb.mono (by simp; omega))
    go_wp2
    go_ret
    exact ⟨hb1, ret_int HR.out.symm⟩

end Go.Proofs.Ytilolaednbcaoaa
