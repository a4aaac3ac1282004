/- The document's own answers: sets, valid terms, school days. -/
import Derived.Test.YtijfcifoemndeaaRef
import Derived.Test.YtijfcifoemndeaaRefM
set_option linter.unusedVariables false
namespace Go.Proofs.Ytijfcifoemndeaa
open Go.RowKit

def DrawB (w : World) (v : Bool) (en : Ending) (w' : World) : Prop := ∃ n, w' = w.drewN n ∧ en = .returned (.bool v)

set_option maxHeartbeats 400000 in
theorem has_at (b off : Nat) (cap : Nat) (xs : List Int) (v : Int) (w : World) (hm : xs.length ≤ 140737488355328)
  (hc : ∀ i, i < xs.length → w.cell? ⟨b, off + i, none⟩ = some (.int .i64 (xs[i]?.getD 0))) :
  Calls Try.prog 69 #[.slice (some ⟨b, off, none⟩) xs.length cap, .int .i64 v] w fun en w' => w = w' ∧ en = .returned (.bool (memB v xs)) := by
  go_enter Try.func69, Try.ntmps69
  go_wp2
  go_loop [5] (fun i => ∃ (k : Nat), k ≤ xs.length ∧ i = .int .i64 k ∧ Hid (memB v xs = memB v (xs.drop k))) (fun i => xs.length - (intOf i).toNat)
  case atStart => exact ⟨0, Nat.zero_le _, rfl, rfl⟩
  case round =>
    obtain ⟨k, hk, rfl, HS⟩ := hrel
    by_cases hlt : k < xs.length
    · have g := hc k hlt
      have HD := hid (memB_drop v xs k hlt)
      clear hc
      generalize xs[k]?.getD 0 = x at *
      by_cases he : x = v
      · have he' : (x == v) = true := by simp [he]
        have HE := hid he
        clear he
        go_wp2
        go_ret
        exact ⟨rfl, ret_bool (by rw [HS.out, HD.out, decide_eq_true HE.out]; rfl)⟩
      · have he' : (x == v) = false := by simp [he]
        have HE := hid he
        clear he
        go_wp2
        go_round
        case rel => exact ⟨k + 1, by omega, by go_num, by unfold Hid; rw [HS.out, HD.out, decide_eq_false HE.out]; rfl⟩
        case measure => simp [intOf]; omega
    · go_wp2
      go_ret
      exact ⟨rfl, ret_bool (by rw [HS.out, List.drop_of_length_le (by omega)]; rfl)⟩
set_option maxHeartbeats 400000 in
theorem has_nil (a : Option Addr) (cap : Nat) (v : Int) (w : World) :
  Calls Try.prog 69 #[.slice a 0 cap, .int .i64 v] w fun en w' => w = w' ∧ en = .returned (.bool (memB v [])) := by
  go_enter Try.func69, Try.ntmps69
  go_wp2
  refine wp_loop_rounds 1 ?_
  rw [rounds_succ]
  go_wp2
  go_ret
  exact ⟨rfl, rfl⟩
theorem has_any (a : Option Addr) (cap : Nat) (xs : List Int) (v : Int) (w : World) (h : Ints w a xs) :
  Calls Try.prog 69 #[.slice a xs.length cap, .int .i64 v] w fun en w' => w = w' ∧ en = .returned (.bool (memB v xs)) := by
  rcases h.at_ with rfl | ⟨b, off, rfl, hc⟩
  · exact has_nil a cap v w
  · exact has_at b off cap xs v w h.len hc

set_option maxRecDepth 100000 in
set_option maxHeartbeats 1000000 in
theorem risSet_at (b off : Nat) (cap : Nat) (xs : List Int) (e : Int) (w : World) (hm : xs.length ≤ 140737488355328)
  (hc : ∀ i, i < xs.length → w.cell? ⟨b, off + i, none⟩ = some (.int .i64 (xs[i]?.getD 0))) :
  Calls Try.prog 56 #[.slice (some ⟨b, off, none⟩) xs.length cap, .int .i64 e] w (DrawB w (isSetFrom 0 (e + 1) xs)) := by
  go_enter Try.func56, Try.ntmps56
  go_wp2
  go_loopw [5] (fun i wr => ∃ (k : Nat), k ≤ xs.length ∧ i = .int .i64 k ∧ Hid (isSetFrom 0 (e + 1) xs = isSetFrom (lastNext xs k) (e + 1) (xs.drop k) ∧ 0 ≤ lastNext xs k) ∧ Hid (∃ n, wr = w.drewN n)) (fun i _ => xs.length - (intOf i).toNat)
  case atStart => exact ⟨0, Nat.zero_le _, rfl, ⟨rfl, Int.le_refl _⟩, ⟨0, rfl⟩⟩
  case round =>
    obtain ⟨k, hk, rfl, HS, HW⟩ := hrel
    have hcr : ∀ i, i < xs.length → wr.cell? ⟨b, off + i, none⟩ = some (.int .i64 (xs[i]?.getD 0)) := fun i hi => by
      obtain ⟨n, e⟩ := HW.out; rw [e]; exact hc i hi
    clear hc
    by_cases hlt : k < xs.length
    · have g := hcr k hlt
      have HD := hid (isSetFrom_drop (lastNext xs k) (e + 1) xs k hlt)
      have HN := hid (show lastNext xs (k + 1) = xs[k]?.getD 0 + 1 from rfl)
      by_cases hk0 : k = 0
      · subst hk0
        clear hcr
        rw [Nat.add_zero] at g
        generalize xs[0]?.getD 0 = x at *
        cases h1 : inB x 0 e with
        | false =>
          have HX := hid (show x < lastNext xs 0 ∨ e + 1 ≤ x by show x < 0 ∨ e + 1 ≤ x; simp [inB] at h1; omega)
          go_wp2_with fail
          go_quiet ((go_at_call 53; exact Calls.quiet_of_same ((within_any _ _ _ _).mono fun _ _ h => ⟨h.2, h.1.symm⟩)))
          go_wp2
          go_ret
          obtain ⟨n, e⟩ := HW.out
          exact ⟨n + nq, by rw [e, World.drewN_drewN], ret_bool (by rw [HS.out.1, HD.out, if_pos HX.out])⟩
        | true =>
          have hx : 0 ≤ x ∧ x < e + 1 := by simp [inB] at h1; omega
          have HX := hid hx
          clear hx
          go_wp2_with fail
          go_quiet ((go_at_call 53; exact Calls.quiet_of_same ((within_any _ _ _ _).mono fun _ _ h => ⟨h.2, h.1.symm⟩)))
          go_wp2
          go_roundw
          case rel =>
            exact ⟨1, by omega, by go_num, ⟨by rw [HS.out.1, HD.out, HN.out, if_neg (by have := HX.out; show ¬ (x < 0 ∨ _); omega)], by rw [HN.out]; have := HX.out; omega⟩, by obtain ⟨n, e⟩ := HW.out; exact ⟨n + nq, by rw [e, World.drewN_drewN]⟩⟩
          case measure => simp [intOf]; omega
      · obtain ⟨j, rfl⟩ : ∃ j, k = j + 1 := ⟨k - 1, by omega⟩
        have g2 := hcr j (by omega)
        have HL := hid (show lastNext xs (j + 1) = xs[j]?.getD 0 + 1 from rfl)
        have hj : (0 : Int) < ((j + 1 : Nat) : Int) := by omega
        clear hcr
        generalize xs[j + 1]?.getD 0 = x at *
        generalize xs[j]?.getD 0 = y at *
        cases h1 : inB x 0 e with
        | false =>
          have HX := hid (show x < lastNext xs (j + 1) ∨ e + 1 ≤ x by have := HS.out.2; simp [inB] at h1; omega)
          go_wp2_with fail
          go_quiet ((go_at_call 53; exact Calls.quiet_of_same ((within_any _ _ _ _).mono fun _ _ h => ⟨h.2, h.1.symm⟩)))
          go_wp2
          go_ret
          obtain ⟨n, e⟩ := HW.out
          exact ⟨n + nq, by rw [e, World.drewN_drewN], ret_bool (by rw [HS.out.1, HD.out, if_pos HX.out])⟩
        | true =>
          cases h2 : decide (x ≤ y) with
          | true =>
            have HX := hid (show x < lastNext xs (j + 1) ∨ e + 1 ≤ x by have := HL.out; simp at h2; omega)
            go_wp2_with fail
            go_quiet ((go_at_call 53; exact Calls.quiet_of_same ((within_any _ _ _ _).mono fun _ _ h => ⟨h.2, h.1.symm⟩)))
            go_wp2
            go_ret
            obtain ⟨n, e⟩ := HW.out
            exact ⟨n + nq, by rw [e, World.drewN_drewN], ret_bool (by rw [HS.out.1, HD.out, if_pos HX.out])⟩
          | false =>
            have HX := hid (show ¬ (x < lastNext xs (j + 1) ∨ e + 1 ≤ x) ∧ 0 ≤ x by have := HL.out; simp at h2; simp [inB] at h1; omega)
            go_wp2_with fail
            go_quiet ((go_at_call 53; exact Calls.quiet_of_same ((within_any _ _ _ _).mono fun _ _ h => ⟨h.2, h.1.symm⟩)))
            go_wp2
            go_roundw
            case rel =>
              exact ⟨j + 2, by omega, by go_num, ⟨by rw [HS.out.1, HD.out, HN.out, if_neg HX.out.1], by rw [HN.out]; have := HX.out.2; omega⟩, by obtain ⟨n, e⟩ := HW.out; exact ⟨n + nq, by rw [e, World.drewN_drewN]⟩⟩
            case measure => simp [intOf]; omega
    · go_wp2
      go_ret
      obtain ⟨n, e⟩ := HW.out
      exact ⟨n, e, ret_bool (by rw [HS.out.1, List.drop_of_length_le (by omega)]; rfl)⟩

set_option maxHeartbeats 400000 in
theorem risSet_nil (a : Option Addr) (cap : Nat) (e : Int) (w : World) :
  Calls Try.prog 56 #[.slice a 0 cap, .int .i64 e] w (DrawB w true) := by
  go_enter Try.func56, Try.ntmps56
  go_wp2
  refine wp_loop_rounds 1 ?_
  rw [rounds_succ]
  go_wp2
  go_ret
  exact ⟨0, rfl, rfl⟩
theorem risSet_any (a : Option Addr) (cap : Nat) (xs : List Int) (e : Int) (w : World) (h : Ints w a xs) :
  Calls Try.prog 56 #[.slice a xs.length cap, .int .i64 e] w (DrawB w (isSetFrom 0 (e + 1) xs)) := by
  rcases h.at_ with rfl | ⟨b, off, rfl, hc⟩
  · exact risSet_nil a cap e w
  · exact risSet_at b off cap xs e w h.len hc

set_option maxRecDepth 100000 in
set_option maxHeartbeats 2000000 in
theorem rvalidate_any (L : Int) (ra : Option Addr) (rs : List Int) (rc : Nat) (ca : Option Addr) (cs : List Int) (cc : Nat) (w : World) (h : TermAt w L ra rs ca cs) :
  Calls Try.prog 21 #[.agg #[.int .i64 L, .slice ra rs.length rc, .slice ca cs.length cc]] w (IntR w (validT L rs cs)) := by
  have hl1 := h.rest.len
  have hl2 := h.closed.len
  have hA := h.alloc (.cells #[.int .i64 L, .slice ra rs.length rc, .slice ca cs.length cc] 24)
  have hB := (Below.refl w.heap.size w).alloc (Nat.le_refl _) (.cells #[.int .i64 L, .slice ra rs.length rc, .slice ca cs.length cc] 24)
  cases h1 : inB L 1 1000 with
  | false =>
    have HR := hid (show validT L rs cs = 1 by simp [inB] at h1; rw [validT, if_pos (by omega)])
    go_enter Try.func21, Try.ntmps21
    go_wp2_with (go_at_call 53; refine (within_any _ _ _ _).mono ?_; rintro e w' ⟨rfl, rfl⟩)
    go_ret
    exact ⟨hB, ret_int HR.out.symm⟩
  | true =>
    have hL : 1 ≤ L ∧ L ≤ 1000 := by simpa [inB] using h1
    cases hS : isSetFrom 0 7 rs with
    | false =>
      have HR := hid (show validT L rs cs = 1 by rw [validT, if_neg (by omega), if_pos (.inr hS)])
      go_enter Try.func21, Try.ntmps21
      go_wp2_with fail
      refine (within_any _ _ _ _).mono ?_
      rintro e w' ⟨rfl, rfl⟩
      rw [h1]
      go_wp2_with fail
      refine (risSet_any _ _ _ _ _ hA.rest).mono ?_
      rintro e w' ⟨n, rfl, rfl⟩
      rw [show (6 : Int) + 1 = 7 from rfl, hS]
      go_wp2
      go_ret
      exact ⟨below_drewN hB n, ret_int HR.out.symm⟩
    | true =>
      by_cases h7 : rs.length = 7
      · have HR := hid (show validT L rs cs = 1 by rw [validT, if_neg (by omega), if_pos (.inl h7)])
        have h7' : ((rs.length : Int) == 7) = true := by simp; omega
        clear h7
        go_enter Try.func21, Try.ntmps21
        go_wp2_with fail
        refine (within_any _ _ _ _).mono ?_
        rintro e w' ⟨rfl, rfl⟩
        rw [h1]
        go_wp2_with fail
        refine (risSet_any _ _ _ _ _ hA.rest).mono ?_
        rintro e w' ⟨n, rfl, rfl⟩
        rw [show (6 : Int) + 1 = 7 from rfl, hS]
        go_wp2
        go_ret
        exact ⟨below_drewN hB n, ret_int HR.out.symm⟩
      · have h7' : ((rs.length : Int) == 7) = false := by simp; omega
        by_cases h60 : 60 < cs.length
        · have HR := hid (show validT L rs cs = 4 by rw [validT, if_neg (by omega), if_neg (by simp [h7, hS]), if_pos h60])
          have h60' : (60 : Int) < (cs.length : Int) := by omega
          go_enter Try.func21, Try.ntmps21
          go_wp2_with fail
          refine (within_any _ _ _ _).mono ?_
          rintro e w' ⟨rfl, rfl⟩
          rw [h1]
          go_wp2_with fail
          refine (risSet_any _ _ _ _ _ hA.rest).mono ?_
          rintro e w' ⟨n, rfl, rfl⟩
          rw [show (6 : Int) + 1 = 7 from rfl, hS]
          go_wp2
          go_ret
          exact ⟨below_drewN hB n, ret_int HR.out.symm⟩
        · have h60' : (cs.length : Int) ≤ 60 := by omega
          have HR := hid (show validT L rs cs = if isSetFrom 0 L cs = false then 1 else 0 by rw [validT, if_neg (by omega), if_neg (by simp [h7, hS]), if_neg h60])
          cases hC : isSetFrom 0 L cs
          all_goals
            go_enter Try.func21, Try.ntmps21
            go_wp2_with fail
            refine (within_any _ _ _ _).mono ?_
            rintro e w' ⟨rfl, rfl⟩
            rw [h1]
            go_wp2_with fail
            refine (risSet_any _ _ _ _ _ hA.rest).mono ?_
            rintro e w' ⟨n, rfl, rfl⟩
            rw [show (6 : Int) + 1 = 7 from rfl, hS]
            go_wp2_with fail
            refine (risSet_any _ _ _ _ _ (hA.closed.below (below_drewN (Below.refl _ _) n))).mono ?_
            rintro e w' ⟨n2, rfl, rfl⟩
            rw [show (L - 1) + 1 = L from by omega, hC]
            go_wp2
            go_ret
            exact ⟨below_drewN hB (n + n2), ret_int (by rw [HR.out, hC]; rfl)⟩

set_option maxRecDepth 100000 in
set_option maxHeartbeats 1000000 in
theorem rweekDay_any (L : Int) (ra : Option Addr) (rs : List Int) (rc : Nat) (ca : Option Addr) (cs : List Int) (cc : Nat) (d : Int) (w : World) (h : TermAt w L ra rs ca cs) (h0 : 0 ≤ d) :
  Calls Try.prog 65 #[.agg #[.int .i64 L, .slice ra rs.length rc, .slice ca cs.length cc], .int .i64 d] w (BoolR w (!memB (d % 7) rs)) := by
  have hA := h.alloc (.cells #[.int .i64 L, .slice ra rs.length rc, .slice ca cs.length cc] 24)
  have hB := (Below.refl w.heap.size w).alloc (Nat.le_refl _) (.cells #[.int .i64 L, .slice ra rs.length rc, .slice ca cs.length cc] 24)
  go_enter Try.func65, Try.ntmps65
  go_wp2_with fail
  refine (has_any _ _ _ _ _ hA.rest).mono ?_
  rintro e w' ⟨rfl, rfl⟩
  go_wp2
  go_ret
  exact ⟨hB, rfl⟩

set_option maxRecDepth 100000 in
set_option maxHeartbeats 1000000 in
theorem ropen_any (L : Int) (ra : Option Addr) (rs : List Int) (rc : Nat) (ca : Option Addr) (cs : List Int) (cc : Nat) (d : Int) (w : World) (h : TermAt w L ra rs ca cs) (h0 : 0 ≤ d) :
  Calls Try.prog 54 #[.agg #[.int .i64 L, .slice ra rs.length rc, .slice ca cs.length cc], .int .i64 d] w (BoolR w (openB rs cs d)) := by
  have hA := h.alloc (.cells #[.int .i64 L, .slice ra rs.length rc, .slice ca cs.length cc] 24)
  have hB := (Below.refl w.heap.size w).alloc (Nat.le_refl _) (.cells #[.int .i64 L, .slice ra rs.length rc, .slice ca cs.length cc] 24)
  cases hm : memB (d % 7) rs with
  | true =>
    have HR := hid (show openB rs cs d = false by simp [openB, hm])
    go_enter Try.func54, Try.ntmps54
    go_wp2_with fail
    refine (rweekDay_any _ _ _ _ _ _ _ _ _ hA h0).mono ?_
    rintro e w1 ⟨hb, rfl⟩
    have hb1 := hB.trans (hb.mono (by simp))
    rw [hm]
    go_wp2
    go_ret
    exact ⟨hb1, ret_bool HR.out.symm⟩
  | false =>
    have HR := hid (show openB rs cs d = !memB d cs by simp [openB, hm])
    go_enter Try.func54, Try.ntmps54
    go_wp2_with fail
    refine (rweekDay_any _ _ _ _ _ _ _ _ _ hA h0).mono ?_
    rintro e w1 ⟨hb, rfl⟩
    have hb1 := hB.trans (hb.mono (by simp))
    obtain ⟨d1, d2⟩ := bcell hb
    have hT := hA.below hb
    simp only [World.size_alloc] at d1 d2
    rw [hm]
    go_wp2_with fail
    refine (has_any _ _ _ _ _ hT.closed).mono ?_
    rintro e w' ⟨rfl, rfl⟩
    go_wp2
    go_ret
    exact ⟨hb1, ret_bool (by rw [HR.out])⟩

set_option maxRecDepth 100000 in
set_option maxHeartbeats 1000000 in
theorem both_any (L : Int) (ra : Option Addr) (rs : List Int) (rc : Nat) (ca : Option Addr) (cs : List Int) (cc : Nat) (m f k : Int) (w : World) (h : TermAt w L ra rs ca cs) :
  Calls Try.prog 61 #[.agg #[.int .i64 L, .slice ra rs.length rc, .slice ca cs.length cc], .agg #[.int .i64 m, .int .i64 f, .int .i64 k]] w (IntR w (checkC L rs cs [(m, f, k)])) := by
  have hB := ((Below.refl w.heap.size w).alloc (Nat.le_refl _) (.cells #[.int .i64 L, .slice ra rs.length rc, .slice ca cs.length cc] 24)).alloc (by simp) (.cells #[.int .i64 m, .int .i64 f, .int .i64 k] 26)
  have hA := h.below hB
  by_cases hz : validT L rs cs = 0
  · have hz' : (validT L rs cs != 0) = false := by simp [hz]
    have HR := hid (show checkC L rs cs [(m, f, k)] = validC m f k by rw [checkC, if_neg (by simp [hz])]; simp [anyBadC, validC])
    clear hz
    go_enter Try.func61, Try.ntmps61
    go_wp2_with fail
    refine (rvalidate_any _ _ _ _ _ _ _ _ hA).mono ?_
    rintro e w1 ⟨hb, rfl⟩
    have hb1 := hB.trans (hb.mono (by simp; omega))
    obtain ⟨d1, d2⟩ := bcell hb
    simp only [World.size_alloc] at d1 d2
    go_wp2_with fail
    refine (rvalidateCycle_any _ _ _ _).mono ?_
    rintro e w2 ⟨hb2, rfl⟩
    go_wp2
    go_ret
    exact ⟨hb1.trans (hb2.mono hb1.size), ret_int HR.out.symm⟩
  · have hz' : (validT L rs cs != 0) = true := by simp [hz]
    have HR := hid (show checkC L rs cs [(m, f, k)] = validT L rs cs by rw [checkC, if_pos hz])
    clear hz
    go_enter Try.func61, Try.ntmps61
    go_wp2_with fail
    refine (rvalidate_any _ _ _ _ _ _ _ _ hA).mono ?_
    rintro e w1 ⟨hb, rfl⟩
    have hb1 := hB.trans (hb.mono (by simp; omega))
    go_wp2
    go_ret
    exact ⟨hb1, ret_int HR.out.symm⟩

end Go.Proofs.Ytijfcifoemndeaa
