/- The Go functions isSet, Validate, ValidateCycle, isMenu, check, checkDay of package term. -/
import Derived.Test.YtilolaednbcaoaaBase
import Derived.Test.YtilolaednbcaoaaCommon
import Derived.Test.YtilolaednbcaoaaValidM
set_option linter.unusedVariables false
namespace Go.Proofs.Ytilolaednbcaoaa
open Go.RowKit

set_option maxHeartbeats 400000 in
theorem isSet_at (b off : Nat) (cap : Nat) (xs : List Int) (e : Int) (w : World) (hm : xs.length ≤ 140737488355328) (he : e ≤ 9223372036854775807)
  (hc : ∀ i, i < xs.length → w.cell? ⟨b, off + i, none⟩ = some (.int .i64 (xs[i]?.getD 0))) :
  Calls Try.prog 58 #[.slice (some ⟨b, off, none⟩) xs.length cap, .int .i64 e] w fun en w' => w = w' ∧ en = .returned (.bool (isSetFrom 0 e xs)) := by
  go_enter Try.func58, Try.ntmps58
  go_wp2
  go_loop [5, 10] (fun m i => ∃ (k : Nat) (l : Int), k ≤ xs.length ∧ i = .int .i64 k ∧ m = .int .i64 l ∧ 0 ≤ l ∧ Hid (isSetFrom 0 e xs = isSetFrom l e (xs.drop k))) (fun _ i => xs.length - (intOf i).toNat)
  case atStart => exact ⟨0, 0, Nat.zero_le _, rfl, rfl, by omega, rfl⟩
  case round =>
    obtain ⟨k, l, hk, rfl, rfl, hl0, HS⟩ := hrel
    by_cases hlt : k < xs.length
    · have g := hc k hlt
      have HD := hid (isSetFrom_drop l e xs k hlt)
      clear hc
      generalize xs[k]?.getD 0 = x at *
      go_wp2
      · go_ret
        have h2 : x < l ∨ e ≤ x := by assumption
        exact ⟨rfl, ret_bool (by rw [HS.out, HD.out, if_pos h2])⟩
      · go_round
        case rel =>
          have h2 : l ≤ x ∧ x < e := by assumption
          exact ⟨k + 1, _, by omega, by go_num, rfl, by omega, by unfold Hid; rw [HS.out, HD.out, if_neg (by omega)]⟩
        case measure => simp [intOf]; omega
      · go_ret
        have h : x < l := by assumption
        exact ⟨rfl, ret_bool (by rw [HS.out, HD.out, if_pos (.inl h)])⟩
    · go_wp2
      go_ret
      exact ⟨rfl, ret_bool (by rw [HS.out, List.drop_of_length_le (by omega)]; rfl)⟩

set_option maxHeartbeats 400000 in
theorem isSet_nil (a : Option Addr) (cap : Nat) (e : Int) (w : World) :
  Calls Try.prog 58 #[.slice a 0 cap, .int .i64 e] w fun en w' => w = w' ∧ en = .returned (.bool (isSetFrom 0 e [])) := by
  go_enter Try.func58, Try.ntmps58
  go_wp2
  refine wp_loop_rounds 1 ?_
  rw [rounds_succ]
  go_wp2
  go_ret
  exact ⟨rfl, rfl⟩

theorem isSet_any (a : Option Addr) (cap : Nat) (xs : List Int) (e : Int) (w : World) (h : Ints w a xs) (he : e ≤ 9223372036854775807) :
  Calls Try.prog 58 #[.slice a xs.length cap, .int .i64 e] w fun en w' => w = w' ∧ en = .returned (.bool (isSetFrom 0 e xs)) := by
  rcases h.at_ with rfl | ⟨b, off, rfl, hc⟩
  · exact isSet_nil a cap e w
  · exact isSet_at b off cap xs e w h.len he hc

/-- What a term that came in reads as. -/
structure TermAt (w : World) (L : Int) (ra : Option Addr) (rs : List Int) (ca : Option Addr) (cs : List Int) : Prop where
  rest : Ints w ra rs
  closed : Ints w ca cs
  lo : -9223372036854775808 ≤ L
  hi : L ≤ 9223372036854775807
theorem TermAt.below {w w' : World} {L : Int} {ra : Option Addr} {rs : List Int} {ca : Option Addr} {cs : List Int} (h : TermAt w L ra rs ca cs) (hb : Below w.heap.size w w') : TermAt w' L ra rs ca cs :=
  ⟨h.rest.below hb, h.closed.below hb, h.lo, h.hi⟩
theorem TermAt.alloc {w : World} {L : Int} {ra : Option Addr} {rs : List Int} {ca : Option Addr} {cs : List Int} (h : TermAt w L ra rs ca cs) (o : Obj) : TermAt (w.alloc o) L ra rs ca cs :=
  h.below ((Below.refl _ _).alloc (Nat.le_refl _) _)


set_option maxRecDepth 100000 in
set_option maxHeartbeats 1000000 in
theorem validate_any (L : Int) (ra : Option Addr) (rs : List Int) (rc : Nat) (ca : Option Addr) (cs : List Int) (cc : Nat) (w : World) (h : TermAt w L ra rs ca cs) :
  Calls Try.prog 34 #[.agg #[.int .i64 L, .slice ra rs.length rc, .slice ca cs.length cc]] w (IntR w (validT L rs cs)) := by
  have hl1 := h.rest.len
  have hl2 := h.closed.len
  have hlo := h.lo
  have hhi := h.hi
  have hA := h.alloc (.cells #[.int .i64 L, .slice ra rs.length rc, .slice ca cs.length cc] 24)
  have hB := (Below.refl w.heap.size w).alloc (Nat.le_refl _) (.cells #[.int .i64 L, .slice ra rs.length rc, .slice ca cs.length cc] 24)
  have HV := hid (show validT L rs cs = _ from rfl)
  by_cases h1 : L < 1 ∨ 1000 < L
  · have HR := hid (show validT L rs cs = 1 by rw [validT, if_pos h1])
    clear HV
    by_cases h1a : L < 1
    · have h1b : decide (L < 1) = true := by simpa using h1a
      go_enter Try.func34, Try.ntmps34
      go_wp2
      go_ret
      exact ⟨hB, ret_int HR.out.symm⟩
    · have h1c : 1000 < L := by omega
      go_enter Try.func34, Try.ntmps34
      go_wp2
      go_ret
      exact ⟨hB, ret_int HR.out.symm⟩
  · have h1a : 1 ≤ L := by omega
    have h1b : L ≤ 1000 := by omega
    by_cases h7 : rs.length = 7
    · have HR := hid (show validT L rs cs = 1 by rw [validT, if_neg h1, if_pos (.inl h7)])
      clear HV
      have h7' : ((rs.length : Int) == 7) = true := by simp; omega
      clear h7
      go_enter Try.func34, Try.ntmps34
      go_wp2
      go_ret
      exact ⟨hB, ret_int HR.out.symm⟩
    · have h7' : ((rs.length : Int) == 7) = false := by simp; omega
      cases hS : isSetFrom 0 7 rs with
      | false =>
        have HR := hid (show validT L rs cs = 1 by rw [validT, if_neg h1, if_pos (.inr hS)])
        clear HV
        go_enter Try.func34, Try.ntmps34
        go_wp2_with fail
        refine (isSet_any _ _ _ _ _ hA.rest (by omega)).mono ?_
        rintro e w' ⟨rfl, rfl⟩
        go_wp2
        go_ret
        exact ⟨hB, ret_int HR.out.symm⟩
      | true =>
        by_cases h60 : 60 < cs.length
        · have HR := hid (show validT L rs cs = 4 by rw [validT, if_neg h1, if_neg (by simp [h7, hS]), if_pos h60])
          have h60' : (60 : Int) < (cs.length : Int) := by omega
          clear HV
          go_enter Try.func34, Try.ntmps34
          go_wp2_with fail
          refine (isSet_any _ _ _ _ _ hA.rest (by omega)).mono ?_
          rintro e w' ⟨rfl, rfl⟩
          go_wp2
          go_ret
          exact ⟨hB, ret_int HR.out.symm⟩
        · have h60' : (cs.length : Int) ≤ 60 := by omega
          have HR := hid (show validT L rs cs = if isSetFrom 0 L cs = false then 1 else 0 by rw [validT, if_neg h1, if_neg (by simp [h7, hS]), if_neg h60])
          clear HV
          cases hC : isSetFrom 0 L cs
          all_goals
            go_enter Try.func34, Try.ntmps34
            go_wp2_with fail
            refine (isSet_any _ _ _ _ _ hA.rest (by omega)).mono ?_
            rintro e w' ⟨rfl, rfl⟩
            go_wp2_with fail
            refine (isSet_any _ _ _ _ _ hA.closed (by omega)).mono ?_
            rintro e w' ⟨rfl, rfl⟩
            go_wp2
            go_ret
            exact ⟨hB, ret_int (by rw [HR.out, hC]; rfl)⟩


set_option maxHeartbeats 400000 in
theorem isMenu_any (m f k x : Int) (w : World) :
  Calls Try.prog 48 #[.agg #[.int .i64 m, .int .i64 f, .int .i64 k], .int .i64 x] w (BoolR w (isMenuB m x)) := by
  have hB := (Below.refl w.heap.size w).alloc (Nat.le_refl _) (.cells #[.int .i64 m, .int .i64 f, .int .i64 k] 38)
  by_cases h0 : 0 ≤ x
  · by_cases h1 : x < m
    · have HR := hid (show isMenuB m x = true by simp [isMenuB]; omega)
      go_enter Try.func48, Try.ntmps48
      go_wp2
      go_ret
      exact ⟨hB, ret_bool HR.out.symm⟩
    · have HR := hid (show isMenuB m x = false by simp [isMenuB]; omega)
      have h1' : m ≤ x := by omega
      go_enter Try.func48, Try.ntmps48
      go_wp2
      go_ret
      exact ⟨hB, ret_bool HR.out.symm⟩
  · have HR := hid (show isMenuB m x = false by simp [isMenuB]; omega)
    have h0' : x < 0 := by omega
    go_enter Try.func48, Try.ntmps48
    go_wp2
    go_ret
    exact ⟨hB, ret_bool HR.out.symm⟩

set_option maxRecDepth 100000 in
set_option maxHeartbeats 1000000 in
theorem validateCycle_any (m f k : Int) (w : World) :
  Calls Try.prog 35 #[.agg #[.int .i64 m, .int .i64 f, .int .i64 k]] w (IntR w (validC m f k)) := by
  have hB := (Below.refl w.heap.size w).alloc (Nat.le_refl _) (.cells #[.int .i64 m, .int .i64 f, .int .i64 k] 38)
  by_cases h1 : m < 1
  · have HR := hid (show validC m f k = 1 by simp [validC, badC, h1])
    go_enter Try.func35, Try.ntmps35
    go_wp2
    go_ret
    exact ⟨hB, ret_int HR.out.symm⟩
  · by_cases h2 : 40 < m
    · have HR := hid (show validC m f k = 1 by simp [validC, badC, h2])
      have h1' : 1 ≤ m := by omega
      go_enter Try.func35, Try.ntmps35
      go_wp2
      go_ret
      exact ⟨hB, ret_int HR.out.symm⟩
    · have h1' : 1 ≤ m := by omega
      have h2' : m ≤ 40 := by omega
      cases h3 : isMenuB m f with
      | false =>
        have HR := hid (show validC m f k = 1 by simp [isMenuB] at h3; simp [validC, badC]; omega)
        go_enter Try.func35, Try.ntmps35
        go_wp2_with fail
        refine (isMenu_any _ _ _ _ _).mono ?_
        rintro e w1 ⟨hb, rfl⟩
        have hb1 := hB.trans (hb.mono (by simp))
        obtain ⟨d1, d2⟩ := bcell hb
        simp only [World.size_alloc] at d1 d2
        go_wp2
        go_ret
        exact ⟨hb1, ret_int HR.out.symm⟩
      | true =>
        by_cases h4 : k = 0
        · subst h4
          have HR := hid (show validC m f 0 = 0 by simp [isMenuB] at h3; simp [validC, badC]; omega)
          go_enter Try.func35, Try.ntmps35
          go_wp2_with fail
          refine (isMenu_any _ _ _ _ _).mono ?_
          rintro e w1 ⟨hb, rfl⟩
          have hb1 := hB.trans (hb.mono (by simp))
          obtain ⟨d1, d2⟩ := bcell hb
          simp only [World.size_alloc] at d1 d2
          go_wp2
          go_ret
          exact ⟨hb1, ret_int HR.out.symm⟩
        · have h4' : (k != 0) = true := by simp [h4]
          cases h5 : (k != 1) with
          | false =>
            have HR := hid (show validC m f k = 0 by simp at h5; simp [isMenuB] at h3; simp [validC, badC]; omega)
            clear h4
            go_enter Try.func35, Try.ntmps35
            go_wp2_with fail
            refine (isMenu_any _ _ _ _ _).mono ?_
            rintro e w1 ⟨hb, rfl⟩
            have hb1 := hB.trans (hb.mono (by simp))
            obtain ⟨d1, d2⟩ := bcell hb
            simp only [World.size_alloc] at d1 d2
            go_wp2
            go_ret
            exact ⟨hb1, ret_int HR.out.symm⟩
          | true =>
            have HR := hid (show validC m f k = 1 by simp at h5; simp [isMenuB] at h3; simp [validC, badC]; omega)
            clear h4
            go_enter Try.func35, Try.ntmps35
            go_wp2_with fail
            refine (isMenu_any _ _ _ _ _).mono ?_
            rintro e w1 ⟨hb, rfl⟩
            have hb1 := hB.trans (hb.mono (by simp))
            obtain ⟨d1, d2⟩ := bcell hb
            simp only [World.size_alloc] at d1 d2
            go_wp2
            go_ret
            exact ⟨hb1, ret_int HR.out.symm⟩

structure Cycles (w : World) (a : Option Addr) (ls : List (Int × Int × Int)) : Prop where
  len : ls.length ≤ 140737488355328
  at_ : ls = [] ∨ ∃ b off, a = some ⟨b, off, none⟩ ∧ ∀ i, i < ls.length → w.cell? ⟨b, off + i * 3, none⟩ = some (.int .i64 (ls[i]?.getD (0, 0, 0)).1) ∧ w.cell? ⟨b, off + i * 3 + 1, none⟩ = some (.int .i64 (ls[i]?.getD (0, 0, 0)).2.1) ∧ w.cell? ⟨b, off + i * 3 + 2, none⟩ = some (.int .i64 (ls[i]?.getD (0, 0, 0)).2.2)

set_option maxRecDepth 100000 in
set_option maxHeartbeats 1000000 in
theorem checkDay_any (L : Int) (ra : Option Addr) (rs : List Int) (rc : Nat) (ca : Option Addr) (cs : List Int) (cc : Nat) (d : Int) (w : World) (h : TermAt w L ra rs ca cs) :
  Calls Try.prog 42 #[.agg #[.int .i64 L, .slice ra rs.length rc, .slice ca cs.length cc], .int .i64 d] w (IntR w (checkD L rs cs d)) := by
  have hA := h.alloc (.cells #[.int .i64 L, .slice ra rs.length rc, .slice ca cs.length cc] 24)
  have hB := (Below.refl w.heap.size w).alloc (Nat.le_refl _) (.cells #[.int .i64 L, .slice ra rs.length rc, .slice ca cs.length cc] 24)
  by_cases hz : validT L rs cs = 0
  · have hz' : (validT L rs cs != 0) = false := by simp [hz]
    have HR := hid (show checkD L rs cs d = if d < 0 ∨ L ≤ d then 1 else 0 by rw [checkD, if_neg (by simp [hz])])
    clear hz
    by_cases h1 : d < 0
    · have HR2 := hid (show checkD L rs cs d = 1 by rw [HR.out, if_pos (.inl h1)])
      go_enter Try.func42, Try.ntmps42
      go_wp2_with fail
      refine (validate_any _ _ _ _ _ _ _ _ hA).mono ?_
      rintro e w1 ⟨hb, rfl⟩
      have hb1 := hB.trans (hb.mono (by simp))
      obtain ⟨d1, d2⟩ := bcell hb
      simp only [World.size_alloc] at d1 d2
      go_wp2
      go_ret
      exact ⟨hb1, ret_int HR2.out.symm⟩
    · have h1' : 0 ≤ d := by omega
      cases h2 : decide (L ≤ d) with
      | true =>
        have HR2 := hid (show checkD L rs cs d = 1 by rw [HR.out, if_pos (.inr (by simpa using h2))])
        go_enter Try.func42, Try.ntmps42
        go_wp2_with fail
        refine (validate_any _ _ _ _ _ _ _ _ hA).mono ?_
        rintro e w1 ⟨hb, rfl⟩
        have hb1 := hB.trans (hb.mono (by simp))
        obtain ⟨d1, d2⟩ := bcell hb
        simp only [World.size_alloc] at d1 d2
        go_wp2
        go_ret
        exact ⟨hb1, ret_int HR2.out.symm⟩
      | false =>
        have HR2 := hid (show checkD L rs cs d = 0 by simp at h2; rw [HR.out, if_neg (by omega)])
        go_enter Try.func42, Try.ntmps42
        go_wp2_with fail
        refine (validate_any _ _ _ _ _ _ _ _ hA).mono ?_
        rintro e w1 ⟨hb, rfl⟩
        have hb1 := hB.trans (hb.mono (by simp))
        obtain ⟨d1, d2⟩ := bcell hb
        simp only [World.size_alloc] at d1 d2
        go_wp2
        go_ret
        exact ⟨hb1, ret_int HR2.out.symm⟩
  · have hz' : (validT L rs cs != 0) = true := by simp [hz]
    have HR := hid (show checkD L rs cs d = validT L rs cs by rw [checkD, if_pos hz])
    clear hz
    go_enter Try.func42, Try.ntmps42
    go_wp2_with fail
    refine (validate_any _ _ _ _ _ _ _ _ hA).mono ?_
    rintro e w1 ⟨hb, rfl⟩
    have hb1 := hB.trans (hb.mono (by simp))
    go_wp2
    go_ret
    exact ⟨hb1, ret_int HR.out.symm⟩

set_option maxRecDepth 100000 in
set_option maxHeartbeats 2000000 in
theorem check_any (L : Int) (ra : Option Addr) (rs : List Int) (rc : Nat) (ca : Option Addr) (cs : List Int) (cc : Nat) (a : Option Addr) (ls : List (Int × Int × Int)) (cap : Nat) (w : World) (h : TermAt w L ra rs ca cs) (hl : Cycles w a ls) :
  Calls Try.prog 44 #[.agg #[.int .i64 L, .slice ra rs.length rc, .slice ca cs.length cc], .slice a ls.length cap] w (IntR w (checkC L rs cs ls)) := by
  have hlen := hl.len
  have hA := h.alloc (.cells #[.int .i64 L, .slice ra rs.length rc, .slice ca cs.length cc] 24)
  have hB := (Below.refl w.heap.size w).alloc (Nat.le_refl _) (.cells #[.int .i64 L, .slice ra rs.length rc, .slice ca cs.length cc] 24)
  by_cases hz : validT L rs cs = 0
  · have hz' : (validT L rs cs != 0) = false := by simp [hz]
    have HR := hid (show checkC L rs cs ls = if anyBadC ls then 1 else 0 by rw [checkC, if_neg (by simp [hz])])
    clear hz
    go_enter Try.func44, Try.ntmps44
    go_wp2_with fail
    refine (validate_any _ _ _ _ _ _ _ _ hA).mono ?_
    rintro e w1 ⟨hb, rfl⟩
    have hb1 := hB.trans (hb.mono (by simp))
    clear hB
    go_wp2
    go_loopw [16] (fun i wr => ∃ k : Nat, k ≤ ls.length ∧ i = .int .i64 k ∧ Hid (anyBadC ls = anyBadC (ls.drop k)) ∧ Below w.heap.size w wr) (fun i _ => ls.length - (intOf i).toNat)
    case atStart => exact ⟨0, Nat.zero_le _, rfl, rfl, hb1⟩
    case round =>
      obtain ⟨k, hk, rfl, HA, hB⟩ := hrel
      by_cases hlt : k < ls.length
      · rcases hl.at_ with e | ⟨b, off, rfl, hc⟩
        · rw [e] at hlt; simp at hlt
        have h1 := (hc k hlt).1
        have h2 := (hc k hlt).2.1
        have h3 := (hc k hlt).2.2
        have hbl := cell_lt h1
        obtain ⟨c1, c2⟩ := bcell hB
        clear hc hb hb1
        have HD := hid (anyBadC_drop ls k hlt)
        generalize ls[k]?.getD (0, 0, 0) = x at *
        cases hx : badC x.1 x.2.1 x.2.2 with
        | true =>
          have HX := hid (show validC x.1 x.2.1 x.2.2 = 1 by rw [validC, if_pos hx])
          go_wp2_with fail
          refine (validateCycle_any _ _ _ _).mono ?_
          rintro e w2 ⟨hb2, rfl⟩
          rw [HX.out]
          go_wp2
          go_ret
          exact ⟨(hB.alloc hB.size _).trans (hb2.mono (by have := hB.size; simp; omega)), ret_int (by rw [HR.out, HA.out, HD.out, hx]; rfl)⟩
        | false =>
          have HX := hid (show validC x.1 x.2.1 x.2.2 = 0 by rw [validC, if_neg (by simp [hx])])
          go_wp2_with fail
          refine (validateCycle_any _ _ _ _).mono ?_
          rintro e w2 ⟨hb2, rfl⟩
          rw [HX.out]
          go_wp2
          go_roundw
          case rel => exact ⟨k + 1, by omega, by go_num, by unfold Hid; rw [HA.out, HD.out, hx]; rfl, (hB.alloc hB.size _).trans (hb2.mono (by have := hB.size; simp; omega))⟩
          case measure => simp [intOf]; omega
      · go_wp2
        go_ret
        exact ⟨hB, ret_int (by rw [HR.out, HA.out, List.drop_of_length_le (by omega)]; rfl)⟩
  · have hz' : (validT L rs cs != 0) = true := by simp [hz]
    have HR := hid (show checkC L rs cs ls = validT L rs cs by rw [checkC, if_pos hz])
    clear hz
    go_enter Try.func44, Try.ntmps44
    go_wp2_with fail
    refine (validate_any _ _ _ _ _ _ _ _ hA).mono ?_
    rintro e w1 ⟨hb, rfl⟩
    have hb1 := hB.trans (hb.mono (by simp))
    go_wp2
    go_ret
    exact ⟨hb1, ret_int HR.out.symm⟩

end Go.Proofs.Ytilolaednbcaoaa
