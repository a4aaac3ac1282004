/- The tests of arguments of package order, and the document's own. -/
import Derived.Test.YtkepjoociidkcaaRes
import Derived.Test.YtkepjoociidkcaaOrM
set_option linter.unusedVariables false
namespace Go.Proofs.Ytkepjoociidkcaa
open Go.RowKit

def SaysR (w : World) (b : Bool) (en : Ending) (w' : World) : Prop := w = w' ∧ en = .returned (.bool b)
def NumR (w : World) (v : Int) (en : Ending) (w' : World) : Prop := w = w' ∧ en = .returned (.int .i64 v)

set_option maxHeartbeats 400000 in
theorem isWithin_any (n lo hi : Int) (w : World) : Calls Try.prog 74 #[.int .i64 n, .int .i64 lo, .int .i64 hi] w (SaysR w (inI n lo hi)) := by
  by_cases h1 : lo ≤ n
  · by_cases h2 : n ≤ hi
    · rw [show inI n lo hi = true by simp [inI, h1, h2]]
      go_enter Try.func74, Try.ntmps74
      go_wp2
      go_ret
      exact ⟨rfl, ret_bool (by simp)⟩
    · rw [show inI n lo hi = false by simp [inI, h2]]
      have h2' : hi < n := by omega
      clear h2
      go_enter Try.func74, Try.ntmps74
      go_wp2
      go_ret
      exact ⟨rfl, ret_bool (by simp <;> omega)⟩
  · rw [show inI n lo hi = false by simp [inI, h1]]
    have h1' : n < lo := by omega
    clear h1
    go_enter Try.func74, Try.ntmps74
    go_wp2
    go_ret
    exact ⟨rfl, rfl⟩
set_option maxHeartbeats 400000 in
theorem rwithin_any (n lo hi : Int) (w : World) : Calls Try.prog 49 #[.int .i64 n, .int .i64 lo, .int .i64 hi] w (SaysR w (inI n lo hi)) := by
  by_cases h1 : lo ≤ n
  · by_cases h2 : n ≤ hi
    · rw [show inI n lo hi = true by simp [inI, h1, h2]]
      go_enter Try.func49, Try.ntmps49
      go_wp2
      go_ret
      exact ⟨rfl, ret_bool (by simp)⟩
    · rw [show inI n lo hi = false by simp [inI, h2]]
      have h2' : hi < n := by omega
      clear h2
      go_enter Try.func49, Try.ntmps49
      go_wp2
      go_ret
      exact ⟨rfl, ret_bool (by simp <;> omega)⟩
  · rw [show inI n lo hi = false by simp [inI, h1]]
    have h1' : n < lo := by omega
    clear h1
    go_enter Try.func49, Try.ntmps49
    go_wp2
    go_ret
    exact ⟨rfl, rfl⟩
set_option maxHeartbeats 400000 in
theorem isChild_any (n : Int) (w : World) : Calls Try.prog 52 #[.int .i64 n] w (SaysR w (inI n 0 99)) := by
  go_enter Try.func52, Try.ntmps52
  go_wp2_with fail
  refine (isWithin_any _ _ _ _).mono ?_
  rintro e w' ⟨rfl, rfl⟩
  go_wp2
  go_ret
  exact ⟨rfl, rfl⟩
set_option maxHeartbeats 400000 in
theorem isDay_any (n : Int) (w : World) : Calls Try.prog 53 #[.int .i64 n] w (SaysR w (inI n 0 999)) := by
  go_enter Try.func53, Try.ntmps53
  go_wp2_with fail
  refine (isWithin_any _ _ _ _).mono ?_
  rintro e w' ⟨rfl, rfl⟩
  go_wp2
  go_ret
  exact ⟨rfl, rfl⟩
set_option maxHeartbeats 400000 in
theorem isMeal_any (n : Int) (w : World) : Calls Try.prog 76 #[.int .i64 n] w (SaysR w (inI n 0 9)) := by
  go_enter Try.func76, Try.ntmps76
  go_wp2_with fail
  refine (isWithin_any _ _ _ _).mono ?_
  rintro e w' ⟨rfl, rfl⟩
  go_wp2
  go_ret
  exact ⟨rfl, rfl⟩
set_option maxHeartbeats 400000 in
theorem isStretch_any (f t : Int) (w : World) : Calls Try.prog 75 #[.int .i64 f, .int .i64 t] w (SaysR w (strB f t)) := by
  by_cases h1 : 0 ≤ f
  · by_cases h2 : f ≤ t
    · by_cases h3 : t ≤ 1000
      · rw [show strB f t = true by simp [strB, h1, h2, h3]]
        go_enter Try.func75, Try.ntmps75
        go_wp2
        go_ret
        exact ⟨rfl, ret_bool (by simp)⟩
      · rw [show strB f t = false by simp [strB, h3]]
        have h3' : 1000 < t := by omega
        clear h3
        go_enter Try.func75, Try.ntmps75
        go_wp2
        go_ret
        exact ⟨rfl, ret_bool (by simp <;> omega)⟩
    · rw [show strB f t = false by simp [strB, h2]]
      have h2' : t < f := by omega
      clear h2
      go_enter Try.func75, Try.ntmps75
      go_wp2
      go_ret
      exact ⟨rfl, ret_bool (by simp)⟩
  · rw [show strB f t = false by simp [strB, h1]]
    have h1' : f < 0 := by omega
    clear h1
    go_enter Try.func75, Try.ntmps75
    go_wp2
    go_ret
    exact ⟨rfl, ret_bool (by simp)⟩
def daysB (f t : Int) : Bool := decide (0 ≤ f) && (decide (f < t) && decide (t ≤ 1000))
set_option maxHeartbeats 400000 in
theorem rdays_any (f t : Int) (w : World) : Calls Try.prog 50 #[.int .i64 f, .int .i64 t] w (SaysR w (daysB f t)) := by
  by_cases h1 : 0 ≤ f
  · by_cases h2 : f < t
    · by_cases h3 : t ≤ 1000
      · rw [show daysB f t = true by simp [daysB, h1, h2, h3]]
        go_enter Try.func50, Try.ntmps50
        go_wp2
        go_ret
        exact ⟨rfl, ret_bool (by simp)⟩
      · rw [show daysB f t = false by simp [daysB, h3]]
        have h3' : 1000 < t := by omega
        clear h3
        go_enter Try.func50, Try.ntmps50
        go_wp2
        go_ret
        exact ⟨rfl, ret_bool (by simp <;> omega)⟩
    · rw [show daysB f t = false by simp [daysB, h2]]
      have h2' : t ≤ f := by omega
      clear h2
      go_enter Try.func50, Try.ntmps50
      go_wp2
      go_ret
      exact ⟨rfl, ret_bool (by simp)⟩
  · rw [show daysB f t = false by simp [daysB, h1]]
    have h1' : f < 0 := by omega
    clear h1
    go_enter Try.func50, Try.ntmps50
    go_wp2
    go_ret
    exact ⟨rfl, ret_bool (by simp)⟩
theorem factB_days (f : Fct) : factB f = (inI f.a 0 1440000 && (inI f.c 0 99 && (daysB f.f f.t && inI f.m 0 9))) := by
  rw [Bool.eq_iff_iff, factB_iff]; simp [inI_iff, daysB] <;> omega

/-- A fact as a value. -/
def fv (f : Fct) : Value := .agg #[.int .i64 f.a, .int .i64 f.c, .int .i64 f.f, .int .i64 f.t, .int .i64 f.m]

set_option maxHeartbeats 1000000 in
theorem isFact_any (f : Fct) (w : World) : Calls Try.prog 48 #[.agg #[.int .i64 f.a, .int .i64 f.c, .int .i64 f.f, .int .i64 f.t, .int .i64 f.m]] w (BoolR w (factB f)) := by
  have hB := hid ((Below.refl w.heap.size w).alloc (Nat.le_refl _) (.cells #[.int .i64 f.a, .int .i64 f.c, .int .i64 f.f, .int .i64 f.t, .int .i64 f.m] 24))
  have HF := hid (show factB f = (inI f.a 0 1440000 && (inI f.c 0 99 && (strB f.f f.t && (decide (f.f < f.t) && inI f.m 0 9)))) from rfl)
  cases h1 : inI f.a 0 1440000 with
  | false =>
    rw [h1] at HF
    go_enter Try.func48, Try.ntmps48
    go_wp2_with (first | (go_at_call 74; refine (isWithin_any _ _ _ _).mono ?_; rintro e w' ⟨rfl, rfl⟩))
    go_ret
    exact ⟨hB.out, ret_bool (by rw [HF.out]; rfl)⟩
  | true =>
    rw [h1] at HF
    cases h2 : inI f.c 0 99 with
    | false =>
      rw [h2] at HF
      go_enter Try.func48, Try.ntmps48
      go_wp2_with (first | (go_at_call 74; refine (isWithin_any _ _ _ _).mono ?_; rintro e w' ⟨rfl, rfl⟩) | (go_at_call 52; refine (isChild_any _ _).mono ?_; rintro e w' ⟨rfl, rfl⟩))
      go_ret
      exact ⟨hB.out, ret_bool (by rw [HF.out]; rfl)⟩
    | true =>
      rw [h2] at HF
      cases h3 : strB f.f f.t with
      | false =>
        rw [h3] at HF
        go_enter Try.func48, Try.ntmps48
        go_wp2_with (first | (go_at_call 74; refine (isWithin_any _ _ _ _).mono ?_; rintro e w' ⟨rfl, rfl⟩) | (go_at_call 52; refine (isChild_any _ _).mono ?_; rintro e w' ⟨rfl, rfl⟩) | (go_at_call 75; refine (isStretch_any _ _ _).mono ?_; rintro e w' ⟨rfl, rfl⟩))
        go_ret
        exact ⟨hB.out, ret_bool (by rw [HF.out]; rfl)⟩
      | true =>
        rw [h3] at HF
        by_cases h4 : f.f < f.t
        · cases h5 : inI f.m 0 9
          all_goals
            rw [h5, decide_eq_true h4] at HF
            go_enter Try.func48, Try.ntmps48
            go_wp2_with (first | (go_at_call 74; refine (isWithin_any _ _ _ _).mono ?_; rintro e w' ⟨rfl, rfl⟩) | (go_at_call 52; refine (isChild_any _ _).mono ?_; rintro e w' ⟨rfl, rfl⟩) | (go_at_call 75; refine (isStretch_any _ _ _).mono ?_; rintro e w' ⟨rfl, rfl⟩) | (go_at_call 76; refine (isMeal_any _ _).mono ?_; rintro e w' ⟨rfl, rfl⟩))
            go_ret
            exact ⟨hB.out, ret_bool (by rw [HF.out]; rfl)⟩
        · rw [decide_eq_false h4] at HF
          have h4' : f.t ≤ f.f := by omega
          clear h4
          go_enter Try.func48, Try.ntmps48
          go_wp2_with (first | (go_at_call 74; refine (isWithin_any _ _ _ _).mono ?_; rintro e w' ⟨rfl, rfl⟩) | (go_at_call 52; refine (isChild_any _ _).mono ?_; rintro e w' ⟨rfl, rfl⟩) | (go_at_call 75; refine (isStretch_any _ _ _).mono ?_; rintro e w' ⟨rfl, rfl⟩))
          go_ret
          exact ⟨hB.out, ret_bool (by rw [HF.out]; rfl)⟩
end Go.Proofs.Ytkepjoociidkcaa
