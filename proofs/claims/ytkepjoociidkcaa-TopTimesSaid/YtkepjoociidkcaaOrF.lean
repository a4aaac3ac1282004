/- Tables of facts in memory; Validate and check of package order, and the document's own. -/
import Derived.Test.YtkepjoociidkcaaOrA
import Derived.Deep.QuietTactic
import Derived.BigQuiet
import Derived.IntWalk
set_option linter.unusedVariables false
namespace Go.Proofs.Ytkepjoociidkcaa
open Go.RowKit

/-- A fact at a place of memory. -/
def FctAt (w : World) (b o : Nat) (f : Fct) : Prop :=
  w.cell? ⟨b, o, none⟩ = some (.int .i64 f.a) ∧ w.cell? ⟨b, o + 1, none⟩ = some (.int .i64 f.c) ∧ w.cell? ⟨b, o + 2, none⟩ = some (.int .i64 f.f) ∧ w.cell? ⟨b, o + 3, none⟩ = some (.int .i64 f.t) ∧ w.cell? ⟨b, o + 4, none⟩ = some (.int .i64 f.m)
theorem FctAt.below {w w' : World} {b o : Nat} {f : Fct} (h : FctAt w b o f) (hb : Below w.heap.size w w') : FctAt w' b o f := by
  obtain ⟨h0, h1, h2, h3, h4⟩ := h
  exact ⟨by rw [hb.cell (cell_lt h0)]; exact h0, by rw [hb.cell (cell_lt h1)]; exact h1, by rw [hb.cell (cell_lt h2)]; exact h2, by rw [hb.cell (cell_lt h3)]; exact h3, by rw [hb.cell (cell_lt h4)]; exact h4⟩
def i64B (x : Int) : Prop := -9223372036854775808 ≤ x ∧ x ≤ 9223372036854775807
def FBd (f : Fct) : Prop := i64B f.a ∧ i64B f.c ∧ i64B f.f ∧ i64B f.t ∧ i64B f.m
/-- A slice of facts that reads as a list. -/
structure FactsAt (w : World) (a : Option Addr) (l : List Fct) : Prop where
  len : l.length ≤ 140737488355328
  at_ : l = [] ∨ ∃ b off, a = some ⟨b, off, none⟩ ∧ ∀ i, i < l.length → FctAt w b (off + i * 5) (fAt l i)
theorem FactsAt.below {w w' : World} {a : Option Addr} {l : List Fct} (h : FactsAt w a l) (hb : Below w.heap.size w w') : FactsAt w' a l := by
  refine ⟨h.len, ?_⟩
  rcases h.at_ with e | ⟨b, off, ha, hc⟩
  · exact .inl e
  · exact .inr ⟨b, off, ha, fun i hi => (hc i hi).below hb⟩
theorem FactsAt.take {w : World} {a : Option Addr} {l : List Fct} (h : FactsAt w a l) (n : Nat) : FactsAt w a (l.take n) := by
  refine ⟨by have := h.len; simp; omega, ?_⟩
  rcases h.at_ with e | ⟨b, off, ha, hc⟩
  · left; rw [e]; simp
  · exact .inr ⟨b, off, ha, fun i hi => by
      have hi' : i < n ∧ i < l.length := by simp at hi; omega
      rw [fAt_take _ _ _ hi'.1]; exact hc i hi'.2⟩

set_option maxRecDepth 100000 in
set_option maxHeartbeats 1000000 in
theorem validate_any (a : Option Addr) (l : List Fct) (cap : Nat) (w : World) (hl : FactsAt w a l) : Calls Try.prog 17 #[.slice a l.length cap] w (IntR w (validE l)) := by
  have hlen := hl.len
  by_cases h60 : 60 < l.length
  · have HS := hid (show validE l = 4 by unfold validE; rw [if_pos h60])
    have hd : (60 : Int) < (l.length : Int) := by omega
    clear h60
    go_enter Try.func17, Try.ntmps17
    go_wp2
    go_ret
    exact ⟨Below.refl _ _, ret_int (by rw [HS.out])⟩
  · have HS := hid (show validE l = factsE 0 l by unfold validE; rw [if_neg h60])
    have hd : (l.length : Int) ≤ 60 := by omega
    have HL := hid hl
    clear h60 hl
    go_enter Try.func17, Try.ntmps17
    go_wp2
    go_loopw [10] (fun i wr => ∃ k : Nat, k ≤ l.length ∧ i = .int .i64 k ∧ Hid (validE l = factsE (prevA l k) (l.drop k)) ∧ Below w.heap.size w wr) (fun i _ => l.length - (intOf i).toNat)
    case atStart => exact ⟨0, Nat.zero_le _, rfl, HS, Below.refl _ _⟩
    case round =>
      clear HS
      obtain ⟨k, hk, rfl, HA, hB⟩ := hrel
      by_cases hlt : k < l.length
      · rcases HL.out.at_ with e | ⟨b, off, rfl, hc⟩
        · rw [e] at hlt; simp at hlt
        obtain ⟨c0, c1, c2, c3, c4⟩ := hc k hlt
        have hbl : b < w.heap.size := cell_lt c0
        obtain ⟨hb1, hb2⟩ := bcell hB
        have HD := hid (factsE_drop l k hlt)
        cases hf : factB (fAt l k) with
        | false =>
          rw [hf] at HD
          clear hc
          generalize fAt l k = x at *
          go_wp2_with fail
          refine (isFact_any x _).mono ?_
          rintro e w1 ⟨hB1, rfl⟩
          go_wp2
          go_ret
          exact ⟨(hB.alloc hB.size _).trans (hB1.mono (by simp; have := hB.size; omega)), ret_int (by rw [HA.out, HD.out]; rfl)⟩
        | true =>
          rw [hf] at HD
          have HN := hid (show prevA l (k + 1) = (fAt l k).a from rfl)
          by_cases hk0 : k = 0
          · have HP := hid (show ¬ (fAt l k).a < prevA l k by have := (factB_iff.1 hf).1; rw [hk0]; show ¬ (fAt l 0).a < 0; rw [hk0] at this; omega)
            have hk1 : (k : Int) ≤ 0 := by omega
            have hkN : decide (0 < k) = false := by simp; omega
            clear hk0 hc
            generalize fAt l k = x at *
            go_wp2_with fail
            refine (isFact_any x _).mono ?_
            rintro e w1 ⟨hB1, rfl⟩
            go_wp2_with fail
            go_quiet (fail)
            go_wp2
            go_roundw
            case rel => exact ⟨k + 1, by omega, by go_num, by unfold Hid; rw [HA.out, HD.out, if_neg (by simp), if_neg (by have := HP.out; omega)], below_drewN ((hB.alloc hB.size _).trans (hB1.mono (by simp; have := hB.size; omega))) _⟩
            case measure => simp [intOf]; omega
          · obtain ⟨j, rfl⟩ : ∃ j, k = j + 1 := ⟨k - 1, by omega⟩
            have hkN : decide (0 < j + 1) = true := by simp
            have hkI : (0 : Int) < ((j + 1 : Nat) : Int) := by omega
            have p0 := (hc j (by omega)).1
            have HP := hid (show prevA l (j + 1) = (fAt l j).a from rfl)
            have hk5 : IntKind.i64.wrap (j : Int) = (j : Int) := IntWalk.i64_in _ (by omega)
            have hk3 : (0 : Int) ≤ (j : Int) := by omega
            have hk4 : (j : Int) < (l.length : Int) := by omega
            clear hk0 hc
            generalize fAt l (j + 1) = x at *
            generalize fAt l j = y at *
            by_cases hlt2 : x.a < y.a
            · go_wp2_with fail
              refine (isFact_any x _).mono ?_
              rintro e w1 ⟨hB1, rfl⟩
              obtain ⟨hb3, hb4⟩ := bcell hB1
              have hz : wr.heap.size + 1 ≤ w1.heap.size := by have := hB1.size; simp at this; omega
              have hBn : Below w.heap.size w w1 := (hB.alloc hB.size _).trans (hB1.mono (by simp; have := hB.size; omega))
              have p1 : w1.cell? ⟨b, off + j * 5, none⟩ = some (.int .i64 y.a) := by rw [hBn.cell hbl]; exact p0
              go_wp2_with fail
              go_quiet (fail)
              go_wp2
              go_ret
              exact ⟨below_drewN ((hB.alloc hB.size _).trans (hB1.mono (by simp; have := hB.size; omega))) _, ret_int (by rw [HA.out, HD.out, if_neg (by simp), if_pos (by rw [HP.out]; exact hlt2)])⟩
            · have hlt3 : y.a ≤ x.a := by omega
              have HQ := hid hlt2
              clear hlt2
              go_wp2_with fail
              refine (isFact_any x _).mono ?_
              rintro e w1 ⟨hB1, rfl⟩
              obtain ⟨hb3, hb4⟩ := bcell hB1
              have hz : wr.heap.size + 1 ≤ w1.heap.size := by have := hB1.size; simp at this; omega
              have hBn : Below w.heap.size w w1 := (hB.alloc hB.size _).trans (hB1.mono (by simp; have := hB.size; omega))
              have p1 : w1.cell? ⟨b, off + j * 5, none⟩ = some (.int .i64 y.a) := by rw [hBn.cell hbl]; exact p0
              go_wp2_with fail
              go_quiet (fail)
              go_wp2
              go_roundw
              case rel => exact ⟨j + 1 + 1, by omega, by go_num, by unfold Hid; rw [HA.out, HD.out, if_neg (by simp), if_neg (by rw [HP.out]; have := HQ.out; omega), HN.out], below_drewN ((hB.alloc hB.size _).trans (hB1.mono (by simp; have := hB.size; omega))) _⟩
              case measure => simp [intOf]; omega
      · go_wp2
        go_ret
        exact ⟨hB, ret_int (by rw [HA.out, List.drop_of_length_le (by omega)]; rfl)⟩

set_option maxRecDepth 100000 in
set_option maxHeartbeats 2000000 in
theorem rvalidate_any (a : Option Addr) (l : List Fct) (cap : Nat) (w : World) (hl : FactsAt w a l) : Calls Try.prog 18 #[.slice a l.length cap] w (IntR w (validE l)) := by
  have hlen := hl.len
  by_cases h60 : 60 < l.length
  · have HS := hid (show validE l = 4 by unfold validE; rw [if_pos h60])
    have hd : (60 : Int) < (l.length : Int) := by omega
    clear h60
    go_enter Try.func18, Try.ntmps18
    go_wp2
    go_ret
    exact ⟨Below.refl _ _, ret_int (by rw [HS.out])⟩
  · have HS := hid (show validE l = factsE 0 l by unfold validE; rw [if_neg h60])
    have hd : (l.length : Int) ≤ 60 := by omega
    have HL := hid hl
    clear h60 hl
    go_enter Try.func18, Try.ntmps18
    go_wp2
    go_loopw [3] (fun i wr => ∃ k : Nat, k ≤ l.length ∧ i = .int .i64 k ∧ Hid (validE l = factsE (prevA l k) (l.drop k)) ∧ Below w.heap.size w wr) (fun i _ => l.length - (intOf i).toNat)
    case atStart => exact ⟨0, Nat.zero_le _, rfl, HS, Below.refl _ _⟩
    case round =>
      clear HS
      obtain ⟨k, hk, rfl, HA, hB⟩ := hrel
      by_cases hlt : k < l.length
      · rcases HL.out.at_ with e | ⟨b, off, rfl, hc⟩
        · rw [e] at hlt; simp at hlt
        obtain ⟨c0, c1, c2, c3, c4⟩ := hc k hlt
        have hbl : b < w.heap.size := cell_lt c0
        obtain ⟨hb1, hb2⟩ := bcell hB
        have HD := hid (factsE_drop l k hlt)
        have HF := hid (factB_days (fAt l k))
        cases g1 : inI (fAt l k).a 0 1440000 with
        | false =>
          rw [g1] at HF
          have HX := hid (show factB (fAt l k) = false by rw [HF.out]; rfl)
          clear hc HF
          generalize fAt l k = x at *
          go_wp2_with (first | (go_at_call 49; refine (rwithin_any _ _ _ _).mono ?_; rintro e w' ⟨rfl, rfl⟩) | (go_at_call 50; refine (rdays_any _ _ _).mono ?_; rintro e w' ⟨rfl, rfl⟩))
          go_ret
          exact ⟨hB.alloc hB.size _, ret_int (by rw [HA.out, HD.out, if_pos HX.out])⟩
        | true =>
          rw [g1] at HF
          cases g2 : inI (fAt l k).c 0 99 with
          | false =>
            rw [g2] at HF
            have HX := hid (show factB (fAt l k) = false by rw [HF.out]; rfl)
            clear hc HF
            generalize fAt l k = x at *
            go_wp2_with (first | (go_at_call 49; refine (rwithin_any _ _ _ _).mono ?_; rintro e w' ⟨rfl, rfl⟩) | (go_at_call 50; refine (rdays_any _ _ _).mono ?_; rintro e w' ⟨rfl, rfl⟩))
            go_ret
            exact ⟨hB.alloc hB.size _, ret_int (by rw [HA.out, HD.out, if_pos HX.out])⟩
          | true =>
            rw [g2] at HF
            cases g3 : daysB (fAt l k).f (fAt l k).t with
            | false =>
              rw [g3] at HF
              have HX := hid (show factB (fAt l k) = false by rw [HF.out]; rfl)
              clear hc HF
              generalize fAt l k = x at *
              go_wp2_with (first | (go_at_call 49; refine (rwithin_any _ _ _ _).mono ?_; rintro e w' ⟨rfl, rfl⟩) | (go_at_call 50; refine (rdays_any _ _ _).mono ?_; rintro e w' ⟨rfl, rfl⟩))
              go_ret
              exact ⟨hB.alloc hB.size _, ret_int (by rw [HA.out, HD.out, if_pos HX.out])⟩
            | true =>
              rw [g3] at HF
              cases g4 : inI (fAt l k).m 0 9 with
              | false =>
                rw [g4] at HF
                have HX := hid (show factB (fAt l k) = false by rw [HF.out]; rfl)
                clear hc HF
                generalize fAt l k = x at *
                go_wp2_with (first | (go_at_call 49; refine (rwithin_any _ _ _ _).mono ?_; rintro e w' ⟨rfl, rfl⟩) | (go_at_call 50; refine (rdays_any _ _ _).mono ?_; rintro e w' ⟨rfl, rfl⟩))
                go_ret
                exact ⟨hB.alloc hB.size _, ret_int (by rw [HA.out, HD.out, if_pos HX.out])⟩
              | true =>
                rw [g4] at HF
                have HN := hid (show prevA l (k + 1) = (fAt l k).a from rfl)
                have hf := (show factB (fAt l k) = true by rw [HF.out]; rfl)
                rw [hf] at HD
                have HA0 := hid (factB_iff.1 hf).1.1
                clear hf HF
                by_cases hk0 : k = 0
                · have HP := hid (show ¬ (fAt l k).a < prevA l k by have := HA0.out; rw [hk0]; show ¬ (fAt l 0).a < 0; rw [hk0] at this; omega)
                  have hk1 : (k : Int) ≤ 0 := by omega
                  have hkN : decide (0 < k) = false := by simp; omega
                  clear hk0 hc
                  generalize fAt l k = x at *
                  go_wp2_with (first | (go_at_call 49; refine (rwithin_any _ _ _ _).mono ?_; rintro e w' ⟨rfl, rfl⟩) | (go_at_call 50; refine (rdays_any _ _ _).mono ?_; rintro e w' ⟨rfl, rfl⟩))
                  go_quiet (fail)
                  go_wp2
                  go_roundw
                  case rel => exact ⟨k + 1, by omega, by go_num, by unfold Hid; rw [HA.out, HD.out, if_neg (by simp), if_neg (by have := HP.out; omega)], below_drewN (hB.alloc hB.size _) _⟩
                  case measure => simp [intOf]; omega
                · obtain ⟨j, rfl⟩ : ∃ j, k = j + 1 := ⟨k - 1, by omega⟩
                  have hkN : decide (0 < j + 1) = true := by simp
                  have hkI : (0 : Int) < ((j + 1 : Nat) : Int) := by omega
                  have p0 := (hc j (by omega)).1
                  have hbl2 : b < wr.heap.size := by have := hB.size; omega
                  have hne : ¬ b = wr.heap.size := by omega
                  have hne2 : ¬ wr.heap.size = b := by omega
                  have p1 : wr.cell? ⟨b, off + j * 5, none⟩ = some (.int .i64 (fAt l j).a) := by rw [hB.cell hbl]; exact p0
                  have HP := hid (show prevA l (j + 1) = (fAt l j).a from rfl)
                  have hk5 : IntKind.i64.wrap (j : Int) = (j : Int) := IntWalk.i64_in _ (by omega)
                  have hk3 : (0 : Int) ≤ (j : Int) := by omega
                  have hk4 : (j : Int) < (l.length : Int) := by omega
                  clear hk0 hc
                  generalize fAt l (j + 1) = x at *
                  generalize fAt l j = y at *
                  by_cases hlt2 : x.a < y.a
                  · go_wp2_with (first | (go_at_call 49; refine (rwithin_any _ _ _ _).mono ?_; rintro e w' ⟨rfl, rfl⟩) | (go_at_call 50; refine (rdays_any _ _ _).mono ?_; rintro e w' ⟨rfl, rfl⟩))
                    go_quiet (fail)
                    go_wp2
                    go_ret
                    exact ⟨below_drewN (hB.alloc hB.size _) _, ret_int (by rw [HA.out, HD.out, if_neg (by simp), if_pos (by rw [HP.out]; exact hlt2)])⟩
                  · have hlt3 : y.a ≤ x.a := by omega
                    have HQ := hid hlt2
                    clear hlt2
                    go_wp2_with (first | (go_at_call 49; refine (rwithin_any _ _ _ _).mono ?_; rintro e w' ⟨rfl, rfl⟩) | (go_at_call 50; refine (rdays_any _ _ _).mono ?_; rintro e w' ⟨rfl, rfl⟩))
                    go_quiet (fail)
                    go_wp2
                    go_roundw
                    case rel => exact ⟨j + 1 + 1, by omega, by go_num, by unfold Hid; rw [HA.out, HD.out, if_neg (by simp), if_neg (by rw [HP.out]; have := HQ.out; omega), HN.out], below_drewN (hB.alloc hB.size _) _⟩
                    case measure => simp [intOf]; omega
      · go_wp2
        go_ret
        exact ⟨hB, ret_int (by rw [HA.out, List.drop_of_length_le (by omega)]; rfl)⟩

/-- The error of a table, and then that of the other arguments. -/
def chkE (l : List Fct) (b : Bool) : Int := if validE l = 0 then (if b then 0 else 1) else validE l
set_option maxHeartbeats 1000000 in
theorem check_any (a : Option Addr) (l : List Fct) (cap : Nat) (b : Bool) (w : World) (hl : FactsAt w a l) : Calls Try.prog 51 #[.slice a l.length cap, .bool b] w (IntR w (chkE l b)) := by
  have HV := hid (validate_any a l cap w hl)
  by_cases h0 : validE l = 0
  · have HS := hid (show chkE l b = if b then 0 else 1 by unfold chkE; rw [if_pos h0])
    rw [h0] at HV
    clear h0 hl
    cases b with
    | true =>
      go_enter Try.func51, Try.ntmps51
      go_wp2_with fail
      refine HV.out.mono ?_
      rintro e w' ⟨hB, rfl⟩
      go_wp2
      go_ret
      exact ⟨hB, ret_int (by rw [HS.out]; rfl)⟩
    | false =>
      go_enter Try.func51, Try.ntmps51
      go_wp2_with fail
      refine HV.out.mono ?_
      rintro e w' ⟨hB, rfl⟩
      go_wp2
      go_ret
      exact ⟨hB, ret_int (by rw [HS.out]; rfl)⟩
  · have HS := hid (show chkE l b = validE l by unfold chkE; rw [if_neg h0])
    have h0' : (validE l == 0) = false := by simp [h0]
    have h0'' : (validE l != 0) = true := by simp [h0]
    clear h0 hl
    go_enter Try.func51, Try.ntmps51
    go_wp2_with fail
    refine HV.out.mono ?_
    rintro e w' ⟨hB, rfl⟩
    go_wp2
    go_ret
    exact ⟨hB, ret_int (by rw [HS.out])⟩
set_option maxHeartbeats 1000000 in
theorem asked_any (a : Option Addr) (l : List Fct) (cap : Nat) (c d : Int) (w : World) (hl : FactsAt w a l) : Calls Try.prog 57 #[.slice a l.length cap, .int .i64 c, .int .i64 d] w (IntR w (chkE l (inI c 0 99 && inI d 0 999))) := by
  have HV := hid (rvalidate_any a l cap w hl)
  by_cases h0 : validE l = 0
  · have HS := hid (show chkE l (inI c 0 99 && inI d 0 999) = if (inI c 0 99 && inI d 0 999) then 0 else 1 by unfold chkE; rw [if_pos h0])
    rw [h0] at HV
    clear h0 hl
    cases h1 : inI c 0 99 with
    | false =>
      rw [h1] at HS
      go_enter Try.func57, Try.ntmps57
      go_wp2_with (first | (go_at_call 49; refine (rwithin_any _ _ _ _).mono ?_; rintro e w' ⟨rfl, rfl⟩) | (refine HV.out.mono ?_; rintro e w1 ⟨hB, rfl⟩))
      go_ret
      exact ⟨hB, ret_int (by rw [HS.out]; rfl)⟩
    | true =>
      cases h2 : inI d 0 999
      all_goals
        rw [h1, h2] at HS
        go_enter Try.func57, Try.ntmps57
        go_wp2_with (first | (go_at_call 49; refine (rwithin_any _ _ _ _).mono ?_; rintro e w' ⟨rfl, rfl⟩) | (refine HV.out.mono ?_; rintro e w1 ⟨hB, rfl⟩))
        go_ret
        exact ⟨hB, ret_int (by rw [HS.out]; rfl)⟩
  · have HS := hid (show chkE l (inI c 0 99 && inI d 0 999) = validE l by unfold chkE; rw [if_neg h0])
    have h0' : (validE l == 0) = false := by simp [h0]
    have h0'' : (validE l != 0) = true := by simp [h0]
    clear h0 hl
    go_enter Try.func57, Try.ntmps57
    go_wp2_with fail
    refine HV.out.mono ?_
    rintro e w' ⟨hB, rfl⟩
    go_wp2
    go_ret
    exact ⟨hB, ret_int (by rw [HS.out])⟩
end Go.Proofs.Ytkepjoociidkcaa
