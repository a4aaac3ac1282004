/- Rights in memory, and who is free. -/
import Derived.Test.YtkepjoociidkcaaOrF
import Derived.Test.YtkepjoociidkcaaOrRtM
set_option linter.unusedVariables false
namespace Go.Proofs.Ytkepjoociidkcaa
open Go.RowKit

/-- A slice of rights that reads as a list. -/
structure RgtsAt (w : World) (a : Option Addr) (r : List Rgt) : Prop where
  len : r.length ≤ 140737488355328
  at_ : r = [] ∨ ∃ b off, a = some ⟨b, off, none⟩ ∧ ∀ i, i < r.length → w.cell? ⟨b, off + i * 3, none⟩ = some (.int .i64 (gAt r i).c) ∧ w.cell? ⟨b, off + i * 3 + 1, none⟩ = some (.int .i64 (gAt r i).f) ∧ w.cell? ⟨b, off + i * 3 + 2, none⟩ = some (.int .i64 (gAt r i).t)
theorem RgtsAt.below {w w' : World} {a : Option Addr} {r : List Rgt} (h : RgtsAt w a r) (hb : Below w.heap.size w w') : RgtsAt w' a r := by
  refine ⟨h.len, ?_⟩
  rcases h.at_ with e | ⟨b, off, ha, hc⟩
  · exact .inl e
  · exact .inr ⟨b, off, ha, fun i hi => by
      obtain ⟨h1, h2, h3⟩ := hc i hi
      exact ⟨by rw [hb.cell (cell_lt h1)]; exact h1, by rw [hb.cell (cell_lt h2)]; exact h2, by rw [hb.cell (cell_lt h3)]; exact h3⟩⟩

set_option maxHeartbeats 1000000 in
theorem isRight_any (x : Rgt) (w : World) : Calls Try.prog 73 #[.agg #[.int .i64 x.c, .int .i64 x.f, .int .i64 x.t]] w (BoolR w (rightB x)) := by
  have hB := hid ((Below.refl w.heap.size w).alloc (Nat.le_refl _) (.cells #[.int .i64 x.c, .int .i64 x.f, .int .i64 x.t] 92))
  have HF := hid (show rightB x = (inI x.c 0 99 && (strB x.f x.t && decide (x.f < x.t))) from rfl)
  cases h2 : inI x.c 0 99 with
  | false =>
    rw [h2] at HF
    go_enter Try.func73, Try.ntmps73
    go_wp2_with (first | (go_at_call 52; refine (isChild_any _ _).mono ?_; rintro e w' ⟨rfl, rfl⟩))
    go_ret
    exact ⟨hB.out, ret_bool (by rw [HF.out]; rfl)⟩
  | true =>
    rw [h2] at HF
    cases h3 : strB x.f x.t with
    | false =>
      rw [h3] at HF
      go_enter Try.func73, Try.ntmps73
      go_wp2_with (first | (go_at_call 52; refine (isChild_any _ _).mono ?_; rintro e w' ⟨rfl, rfl⟩) | (go_at_call 75; refine (isStretch_any _ _ _).mono ?_; rintro e w' ⟨rfl, rfl⟩))
      go_ret
      exact ⟨hB.out, ret_bool (by rw [HF.out]; rfl)⟩
    | true =>
      rw [h3] at HF
      by_cases h4 : x.f < x.t
      · rw [decide_eq_true h4] at HF
        go_enter Try.func73, Try.ntmps73
        go_wp2_with (first | (go_at_call 52; refine (isChild_any _ _).mono ?_; rintro e w' ⟨rfl, rfl⟩) | (go_at_call 75; refine (isStretch_any _ _ _).mono ?_; rintro e w' ⟨rfl, rfl⟩))
        go_ret
        exact ⟨hB.out, ret_bool (by rw [HF.out]; simp)⟩
      · rw [decide_eq_false h4] at HF
        have h4' : x.t ≤ x.f := by omega
        clear h4
        go_enter Try.func73, Try.ntmps73
        go_wp2_with (first | (go_at_call 52; refine (isChild_any _ _).mono ?_; rintro e w' ⟨rfl, rfl⟩) | (go_at_call 75; refine (isStretch_any _ _ _).mono ?_; rintro e w' ⟨rfl, rfl⟩))
        go_ret
        exact ⟨hB.out, ret_bool (by rw [HF.out]; simp <;> omega)⟩

set_option maxRecDepth 100000 in
set_option maxHeartbeats 2000000 in
theorem validateRights_any (a : Option Addr) (r : List Rgt) (cap : Nat) (w : World) (hr : RgtsAt w a r) : Calls Try.prog 43 #[.slice a r.length cap] w (IntR w (rightsE r)) := by
  have hlen := hr.len
  by_cases h60 : 60 < r.length
  · have HS := hid (show rightsE r = 4 from if_pos h60)
    have hd : (60 : Int) < (r.length : Int) := by omega
    clear h60
    go_enter Try.func43, Try.ntmps43
    go_wp2
    go_ret
    exact ⟨Below.refl _ _, ret_int (by rw [HS.out])⟩
  · have HS := hid (show rightsE r = if okR r = true then 0 else 1 from if_neg h60)
    have hd : (r.length : Int) ≤ 60 := by omega
    have HR := hid hr
    clear h60 hr
    go_enter Try.func43, Try.ntmps43
    go_wp2
    go_loopw [10] (fun i wr => ∃ k : Nat, k ≤ r.length ∧ i = .int .i64 k ∧ Hid (okR r = okR (r.drop k)) ∧ Below w.heap.size w wr) (fun i _ => r.length - (intOf i).toNat)
    case atStart => exact ⟨0, Nat.zero_le _, rfl, rfl, Below.refl _ _⟩
    case round =>
      obtain ⟨k, hk, rfl, HA, hB⟩ := hrel
      by_cases hlt : k < r.length
      · rcases (HR.out.below hB).at_ with e | ⟨b, off, rfl, hc⟩
        · rw [e] at hlt; simp at hlt
        obtain ⟨c0, c1, c2⟩ := hc k hlt
        have HD := hid (okR_drop r k hlt)
        clear hc
        generalize gAt r k = x at *
        cases hf : rightB x with
        | true =>
          rw [hf] at HD
          go_wp2_with fail
          refine (isRight_any x _).mono ?_
          rintro e w1 ⟨q1, rfl⟩
          rw [hf]
          go_wp2
          go_roundw
          case rel => exact ⟨k + 1, by omega, by go_num, by unfold Hid; rw [HA.out, HD.out]; rfl, (hB.alloc hB.size _).trans (q1.mono (by simp; have := hB.size; omega))⟩
          case measure => simp [intOf]; omega
        | false =>
          rw [hf] at HD
          go_wp2_with fail
          refine (isRight_any x _).mono ?_
          rintro e w1 ⟨q1, rfl⟩
          rw [hf]
          go_wp2
          go_ret
          exact ⟨(hB.alloc hB.size _).trans (q1.mono (by simp; have := hB.size; omega)), ret_int (by rw [HS.out, HA.out, HD.out]; rfl)⟩
      · go_wp2
        go_ret
        exact ⟨hB, ret_int (by rw [HS.out, HA.out, List.drop_of_length_le (by omega)]; rfl)⟩

set_option maxRecDepth 100000 in
set_option maxHeartbeats 4000000 in
theorem rvalidateRights_any (a : Option Addr) (r : List Rgt) (cap : Nat) (w : World) (hr : RgtsAt w a r) : Calls Try.prog 44 #[.slice a r.length cap] w (IntR w (rightsE r)) := by
  have hlen := hr.len
  by_cases h60 : 60 < r.length
  · have HS := hid (show rightsE r = 4 from if_pos h60)
    have hd : (60 : Int) < (r.length : Int) := by omega
    clear h60
    go_enter Try.func44, Try.ntmps44
    go_wp2
    go_ret
    exact ⟨Below.refl _ _, ret_int (by rw [HS.out])⟩
  · have HS := hid (show rightsE r = if okR r = true then 0 else 1 from if_neg h60)
    have hd : (r.length : Int) ≤ 60 := by omega
    have HR := hid hr
    clear h60 hr
    go_enter Try.func44, Try.ntmps44
    go_wp2
    go_loopw [3] (fun i wr => ∃ k : Nat, k ≤ r.length ∧ i = .int .i64 k ∧ Hid (okR r = okR (r.drop k)) ∧ Below w.heap.size w wr) (fun i _ => r.length - (intOf i).toNat)
    case atStart => exact ⟨0, Nat.zero_le _, rfl, rfl, Below.refl _ _⟩
    case round =>
      obtain ⟨k, hk, rfl, HA, hB⟩ := hrel
      by_cases hlt : k < r.length
      · rcases (HR.out.below hB).at_ with e | ⟨b, off, rfl, hc⟩
        · rw [e] at hlt; simp at hlt
        obtain ⟨c0, c1, c2⟩ := hc k hlt
        have HD := hid (okR_drop r k hlt)
        have HRB := hid (rightB_days (gAt r k))
        have i0 : (0 : Int) ≤ (k : Int) := by omega
        have i1 : (k : Int) < (r.length : Int) := by omega
        clear hc
        generalize gAt r k = x at *
        cases h1 : inI x.c 0 99 with
        | false =>
          rw [h1] at HRB
          have HX := hid (show okR (r.drop k) = false by rw [HD.out, HRB.out]; rfl)
          clear HD HRB
          go_wp2
          go_quiet ((go_at_call 49; exact Calls.quiet_of_same ((rwithin_any _ _ _ _).mono fun _ _ h => ⟨h.2, h.1.symm⟩)))
          go_wp2
          go_ret
          exact ⟨below_drewN hB _, ret_int (by rw [HS.out, HA.out, HX.out]; rfl)⟩
        | true =>
          rw [h1] at HRB
          cases h2 : daysB x.f x.t with
          | false =>
            have HX := hid (show okR (r.drop k) = false by rw [HD.out, HRB.out]; show ((true && daysB x.f x.t) && _) = false; rw [h2]; rfl)
            clear HD HRB
            go_wp2
            go_quiet ((first | (go_at_call 49; exact Calls.quiet_of_same ((rwithin_any _ _ _ _).mono fun _ _ h => ⟨h.2, h.1.symm⟩)) | (go_at_call 50; exact Calls.quiet_of_same ((rdays_any _ _ _).mono fun _ _ h => ⟨h.2, h.1.symm⟩))))
            go_wp2
            go_ret
            exact ⟨below_drewN hB _, ret_int (by rw [HS.out, HA.out, HX.out]; rfl)⟩
          | true =>
            have HX := hid (show okR (r.drop k) = okR (r.drop (k + 1)) by rw [HD.out, HRB.out]; show ((true && daysB x.f x.t) && _) = _; rw [h2]; rfl)
            clear HD HRB
            go_wp2
            go_quiet ((first | (go_at_call 49; exact Calls.quiet_of_same ((rwithin_any _ _ _ _).mono fun _ _ h => ⟨h.2, h.1.symm⟩)) | (go_at_call 50; exact Calls.quiet_of_same ((rdays_any _ _ _).mono fun _ _ h => ⟨h.2, h.1.symm⟩))))
            go_wp2
            go_roundw
            case rel => exact ⟨k + 1, by omega, by go_num, by unfold Hid; rw [HA.out, HX.out], below_drewN hB _⟩
            case measure => simp [intOf]; omega
      · go_wp2
        go_ret
        exact ⟨hB, ret_int (by rw [HS.out, HA.out, List.drop_of_length_le (by omega)]; rfl)⟩
end Go.Proofs.Ytkepjoociidkcaa
