/- The document's own ruleOK, Validate, named of books. -/
import Derived.Test.YtdgleicpcjfnoaaCommon
import Derived.Test.YtdgleicpcjfnoaaBook
import Derived.Deep.QuietTactic
import Derived.BigQuiet
import Derived.Deep.RegionHeld3
set_option linter.unusedVariables false
namespace Go.Proofs.Ytdgleicpcjfnoaa
open Go.RowKit

/-- IsSet of the document, with the draws of its own left unsaid. -/
theorem risSet_b (a : Option Addr) (cap : Nat) (xs : List Int) (e : Int) (w : World) (h : Ints w a xs) :
  Calls Try.prog 49 #[.slice a xs.length cap, .int .i64 (e - 1)] w (BoolR w (isSetFrom 0 e xs)) := by
  refine (risSet_any a cap xs (e - 1) w h).mono ?_
  rintro en w' ⟨n, rfl, rfl⟩
  exact ⟨below_drewN (Below.refl _ _) _, by rw [show e - 1 + 1 = e by omega]⟩

theorem ints_drewN {w : World} {a : Option Addr} {xs : List Int} (h : Ints w a xs) (n : Nat) : Ints (w.drewN n) a xs := ⟨h.len, h.at_, h.bd⟩
/-- .. as a quiet call. -/
theorem risSet_q (a : Option Addr) (cap : Nat) (xs : List Int) (e : Int) (w : World) (h : Ints w a xs) (v : Bool) (hv : isSetFrom 0 e xs = v) (n : Nat) :
  Calls Try.prog 49 #[.slice a xs.length cap, .int .i64 (e - 1)] (w.drewN n) fun en w' => en = .returned (.bool v) ∧ ∃ m, w' = w.drewN m := by
  refine (risSet_any a cap xs (e - 1) (w.drewN n) (ints_drewN h n)).mono ?_
  rintro en w' ⟨m, rfl, rfl⟩
  exact ⟨by rw [show e - 1 + 1 = e by omega, hv], n + m, World.drewN_drewN _ _ _⟩

set_option maxRecDepth 100000 in
set_option maxHeartbeats 1000000 in
theorem ruleOK_any (P : Int) (a : Option Addr) (xs : List Int) (cap : Nat) (t : Int) (w : World) (h : Ints w a xs) (h0 : 0 ≤ P) (h1 : P ≤ 10) :
  Calls Try.prog 50 #[.agg #[.slice a xs.length cap, .int .i64 t], .int .i64 P] w (BoolR w (ruleB P (xs, t))) := by
  have hB := (Below.refl w.heap.size w).alloc (Nat.le_refl _) (.cells #[.slice a xs.length cap, .int .i64 t] 55)
  have hI := h.below hB
  have HB := hid hB
  cases hs : isSetFrom 0 P xs with
  | false =>
    go_enter Try.func50, Try.ntmps50
    go_wp2_with fail
    refine (risSet_b _ _ _ _ _ hI).mono ?_
    rintro e w1 ⟨q1, rfl⟩
    rw [hs]
    go_wp2
    go_ret
    exact ⟨hB.trans (q1.mono (by simp)), ret_bool (by rw [ruleB, hs]; rfl)⟩
  | true =>
    by_cases h2 : 0 ≤ t
    · have HR := hid (show ruleB P (xs, t) = decide (t < P) by simp [ruleB, hs, h2])
      go_enter Try.func50, Try.ntmps50
      go_wp2_with fail
      refine (risSet_b _ _ _ _ _ hI).mono ?_
      rintro e w1 ⟨q1, rfl⟩
      rw [hs]
      have hs1 := q1.size
      simp only [World.size_alloc] at hs1
      have a1 : w1.cell? ⟨w.heap.size, 1, none⟩ = some (.int .i64 t) := by rw [q1.cell (by simp)]; go_simp
      go_wp2
      go_ret
      exact ⟨HB.out.trans (q1.mono (by simp)), ret_bool (by rw [HR.out])⟩
    · have HR := hid (show ruleB P (xs, t) = false by simp [ruleB]; omega)
      have h2' : t < 0 := by omega
      go_enter Try.func50, Try.ntmps50
      go_wp2_with fail
      refine (risSet_b _ _ _ _ _ hI).mono ?_
      rintro e w1 ⟨q1, rfl⟩
      rw [hs]
      have hs1 := q1.size
      simp only [World.size_alloc] at hs1
      have a1 : w1.cell? ⟨w.heap.size, 1, none⟩ = some (.int .i64 t) := by rw [q1.cell (by simp)]; go_simp
      go_wp2
      go_ret
      exact ⟨HB.out.trans (q1.mono (by simp)), ret_bool (by rw [HR.out]; first | done | (simp; done) | (simp; omega))⟩

/-- What Validate keeps of the book that it was given. -/
def ValS (w : World) (P : Int) (i r : Value) (w' : World) : Prop :=
  w'.cell? ⟨w.heap.size, 0, none⟩ = some (.int .i64 P) ∧ w'.cell? ⟨w.heap.size, 1, none⟩ = some i ∧ w'.cell? ⟨w.heap.size, 2, none⟩ = some r ∧ Below w.heap.size w w'
section
variable {w : World} {P : Int} {i r : Value}
theorem ValS.below {w' : World} (h : ValS w P i r w') : Below w.heap.size w w' := h.2.2.2
theorem ValS.size {w' : World} (h : ValS w P i r w') : w.heap.size < w'.heap.size := cell_lt h.1
theorem ValS.drew {w' : World} (h : ValS w P i r w') : ValS w P i r w'.drew := by
  obtain ⟨a0, a1, a2, p⟩ := h
  exact ⟨a0, a1, a2, p.drew⟩
theorem ValS.keep {w' w2 : World} (h : ValS w P i r w') (hb : Below w'.heap.size w' w2) : ValS w P i r w2 := by
  obtain ⟨a0, a1, a2, p⟩ := h
  refine ⟨?_, ?_, ?_, p.trans (hb.mono p.size)⟩
  · rw [hb.cell (cell_lt a0)]; exact a0
  · rw [hb.cell (cell_lt a1)]; exact a1
  · rw [hb.cell (cell_lt a2)]; exact a2
theorem ValS.made (w : World) (P : Int) (i r : Value) : ValS w P i r (w.alloc (.cells #[.int .i64 P, i, r] 25)) :=
  ⟨by go_simp, by go_simp, by go_simp, (Below.refl _ _).alloc (Nat.le_refl _) _⟩
end

/-- What a call keeps that is handed a rule. -/
def RulS (w wr : World) (P : Int) (i r : Value) (p q : Addr) (x y : Value) (w' : World) : Prop :=
  w'.cell? ⟨w.heap.size, 0, none⟩ = some (.int .i64 P) ∧ w'.cell? ⟨w.heap.size, 1, none⟩ = some i ∧ w'.cell? ⟨w.heap.size, 2, none⟩ = some r ∧ w'.cell? p = some x ∧ w'.cell? q = some y ∧ Below wr.heap.size wr w'
section
variable {w wr : World} {P : Int} {i r : Value} {p q : Addr} {x y : Value}
theorem RulS.below {w' : World} (h : RulS w wr P i r p q x y w') : Below wr.heap.size wr w' := h.2.2.2.2.2
theorem RulS.drew {w' : World} (h : RulS w wr P i r p q x y w') : RulS w wr P i r p q x y w'.drew := by
  obtain ⟨a0, a1, a2, a3, a4, p⟩ := h
  exact ⟨a0, a1, a2, a3, a4, p.drew⟩
theorem RulS.keep {w' w2 : World} (h : RulS w wr P i r p q x y w') (hb : Below w'.heap.size w' w2) : RulS w wr P i r p q x y w2 := by
  obtain ⟨a0, a1, a2, a3, a4, p⟩ := h
  refine ⟨?_, ?_, ?_, ?_, ?_, p.trans (hb.mono p.size)⟩
  · rw [hb.cell (cell_lt a0)]; exact a0
  · rw [hb.cell (cell_lt a1)]; exact a1
  · rw [hb.cell (cell_lt a2)]; exact a2
  · rw [hb.cell (cell_lt a3)]; exact a3
  · rw [hb.cell (cell_lt a4)]; exact a4
end

set_option maxRecDepth 100000 in
set_option maxHeartbeats 8000000 in
theorem rvalidB_any (P : Int) (ia : Option Addr) (its : List ItemL) (ic : Nat) (ra : Option Addr) (rls : List RuleL) (rc : Nat) (w : World) (h : BookAt w P ia its ra rls) :
  Calls Try.prog 18 #[.agg #[.int .i64 P, .slice ia its.length ic, .slice ra rls.length rc]] w (IntR w (validB P its rls)) := by
  have hB0 := (Below.refl w.heap.size w).alloc (Nat.le_refl _) (.cells #[.int .i64 P, .slice ia its.length ic, .slice ra rls.length rc] 25)
  have hl1 := h.items.len
  have hl2 := h.rules.len
  by_cases h0 : P < 0
  · have HR := hid (show validB P its rls = 1 by rw [validB, if_pos (.inl h0)])
    go_enter Try.func18, Try.ntmps18
    go_wp2
    go_ret
    exact ⟨hB0, ret_int HR.out.symm⟩
  · by_cases h1 : 10 < P
    · have HR := hid (show validB P its rls = 1 by rw [validB, if_pos (.inr h1)])
      have h0' : 0 ≤ P := by omega
      go_enter Try.func18, Try.ntmps18
      go_wp2
      go_ret
      exact ⟨hB0, ret_int HR.out.symm⟩
    · have h0' : 0 ≤ P := by omega
      have h1' : P ≤ 10 := by omega
      by_cases h2 : 20 < its.length
      · have HR := hid (show validB P its rls = 4 by rw [validB, if_neg (by omega), if_pos (.inl h2)])
        have h2' : (20 : Int) < (its.length : Int) := by omega
        go_enter Try.func18, Try.ntmps18
        go_wp2
        go_ret
        exact ⟨hB0, ret_int HR.out.symm⟩
      · have h2' : (its.length : Int) ≤ 20 := by omega
        by_cases h3 : 16 < rls.length
        · have HR := hid (show validB P its rls = 4 by rw [validB, if_neg (by omega), if_pos (.inr h3)])
          have h3' : (16 : Int) < (rls.length : Int) := by omega
          go_enter Try.func18, Try.ntmps18
          go_wp2
          go_ret
          exact ⟨hB0, ret_int HR.out.symm⟩
        · have h3' : (rls.length : Int) ≤ 16 := by omega
          have HR := hid (show validB P its rls = if itemsE P 0 its ≠ 0 then itemsE P 0 its else rulesE P rls by rw [validB, if_neg (by omega), if_neg (by omega)])
          have S0 := ValS.made w P (.slice ia its.length ic) (.slice ra rls.length rc)
          clear h0 h1 h2 h3
          go_enter Try.func18, Try.ntmps18
          go_wp2
          clear hB0
          go_loopw [3] (fun i wr => ∃ k : Nat, k ≤ its.length ∧ i = .int .i64 k ∧ Hid (itemsE P 0 its = itemsE P k (its.drop k)) ∧ ValS w P (.slice ia its.length ic) (.slice ra rls.length rc) wr) (fun i _ => its.length - (intOf i).toNat)
          case atStart => exact ⟨0, Nat.zero_le _, rfl, rfl, S0⟩
          case round =>
            clear S0
            obtain ⟨k, hk, rfl, HA, hS⟩ := hrel
            obtain ⟨a0, a1, a2, hB⟩ := id hS
            have hsz := hS.size
            by_cases hlt : k < its.length
            · rcases (h.items.below hB).at_ with e | ⟨b, off, rfl, hc⟩
              · rw [e] at hlt; simp at hlt
              obtain ⟨A, c, B, d, c0, c1, hA, hBd⟩ := hc k hlt
              have HD := hid (itemsE_drop P its k hlt)
              have hlA := hA.len
              have hlk : (k : Int) < (its.length : Int) := by omega
              have hk0 : (0 : Int) ≤ (k : Int) := by omega
              clear hc
              generalize (its[k]?.getD ([], [])).1 = ps at *
              generalize (its[k]?.getD ([], [])).2 = hs at *
              by_cases h6 : 6 < ps.length
              · have h6' : (6 : Int) < (ps.length : Int) := by omega
                go_wp2
                go_ret
                exact ⟨hB, ret_int (by rw [HR.out, HA.out, HD.out, if_pos h6]; rfl)⟩
              · have h6' : (ps.length : Int) ≤ 6 := by omega
                have HD2 := hid ((HD.out).trans (if_neg h6))
                clear h6 HD
                have hw1 : IntKind.i64.wrap ((k : Int) - 1) = (k : Int) - 1 := IntWalk.i64_in _ (by omega)
                have hw2 : IntKind.i64.wrap (P - 1) = P - 1 := IntWalk.i64_in _ (by omega)
                have hSn : ∀ n, ValS w P (.slice (some ⟨b, off, none⟩) its.length ic) (.slice ra rls.length rc) (wr.drewN n) := fun n => hS.keep (below_drewN (Below.refl _ _) _)
                cases hs1 : isSetFrom 0 (k : Int) ps with
                | false =>
                  have Q1 := hid (risSet_q A c ps (k : Int) wr hA false hs1)
                  have hs1' := hid hs1
                  clear hA hBd hs1
                  go_wp2
                  go_quiet ((go_at_call 49; with_reducible exact Q1.out _))
                  go_wp2
                  go_ret
                  exact ⟨below_drewN hB _, ret_int (by rw [HR.out, HA.out, HD2.out, hs1'.out]; rfl)⟩
                | true =>
                  cases hs2 : isSetFrom 0 P hs with
                  | false =>
                    have Q1 := hid (risSet_q A c ps (k : Int) wr hA true hs1)
                    have Q2 := hid (risSet_q B d hs P wr hBd false hs2)
                    have hs1' := hid hs1
                    have hs2' := hid hs2
                    clear hA hBd hs1 hs2
                    go_wp2
                    go_quiet ((go_at_call 49; first | with_reducible exact Q1.out _ | with_reducible exact Q2.out _))
                    go_wp2
                    go_ret
                    exact ⟨below_drewN hB _, ret_int (by rw [HR.out, HA.out, HD2.out, hs1'.out, hs2'.out]; rfl)⟩
                  | true =>
                    have Q1 := hid (risSet_q A c ps (k : Int) wr hA true hs1)
                    have Q2 := hid (risSet_q B d hs P wr hBd true hs2)
                    have HN := hid (show itemsE P 0 its = itemsE P (k + 1) (its.drop (k + 1)) by rw [HA.out, HD2.out, hs1, hs2]; rfl)
                    clear hA hBd hs1 hs2 HA HD2
                    go_wp2
                    go_quiet ((go_at_call 49; first | with_reducible exact Q1.out _ | with_reducible exact Q2.out _))
                    go_wp2
                    go_roundw
                    case rel => exact ⟨k + 1, by omega, by go_num, HN, hSn _⟩
                    case measure => simp [intOf]; omega
            · have HI := hid (show itemsE P 0 its = 0 by rw [HA.out, List.drop_of_length_le (by omega)]; rfl)
              have HR2 := hid (show validB P its rls = rulesE P rls by rw [HR.out, if_neg (by simp [HI.out])])
              have HR0 := hid h.rules
              clear HA HR h
              go_wp2
              obtain ⟨wo, rfl⟩ : ∃ wo : World, wo = wr := ⟨_, rfl⟩
              go_loopw [4] (fun i wr => ∃ k : Nat, k ≤ rls.length ∧ i = .int .i64 k ∧ Hid (rulesE P rls = rulesE P (rls.drop k)) ∧ ValS w P (.slice ia its.length ic) (.slice ra rls.length rc) wr) (fun i _ => rls.length - (intOf i).toNat)
              case atStart => exact ⟨0, Nat.zero_le _, rfl, rfl, hS⟩
              case round =>
                clear hS hsz a0 a1 a2 hB hk hlt
                obtain ⟨k, hk, rfl, HA, hS⟩ := hrel
                obtain ⟨a0, a1, a2, hB⟩ := id hS
                have hsz := hS.size
                by_cases hlt : k < rls.length
                · rcases ((HR0.out).below hB).at_ with e | ⟨b, off, rfl, hc⟩
                  · rw [e] at hlt; simp at hlt
                  obtain ⟨A, c, c0, c1, hA, hbd⟩ := hc k hlt
                  have HD := hid (rulesE_drop P rls k hlt)
                  have hlA := hA.len
                  have hlk : (k : Int) < (rls.length : Int) := by omega
                  have hk0 : (0 : Int) ≤ (k : Int) := by omega
                  have HX := hid (show rls[k]?.getD ([], 0) = ((rls[k]?.getD ([], 0)).1, (rls[k]?.getD ([], 0)).2) from rfl)
                  rw [HX.out] at HD
                  clear hc HX
                  generalize (rls[k]?.getD ([], 0)).1 = xs at *
                  generalize (rls[k]?.getD ([], 0)).2 = t at *
                  have HC := hid (fun (w' : World) (hb : Below wr.heap.size wr w') => ruleOK_any P A xs c t w' (hA.below hb) h0' h1')
                  have S0 := hid (show RulS w wr P (.slice ia its.length ic) (.slice (some ⟨b, off, none⟩) rls.length rc) ⟨b, off + k * 2, none⟩ ⟨b, off + k * 2 + 1, none⟩ (.slice A xs.length c) (.int .i64 t) wr from ⟨a0, a1, a2, c0, c1, Below.refl _ _⟩)
                  have HS := hid hS
                  clear hA hB hS
                  cases hr : ruleB P (xs, t) with
                  | false =>
                    rw [hr] at HC HD
                    clear hr
                    go_wp2
                    clear a0 a1 a2 c0 c1
                    go_region_held3 (fun w' => w'.cell? ⟨w.heap.size, 0, none⟩ = some (.int .i64 P) ∧ w'.cell? ⟨w.heap.size, 1, none⟩ = some (.slice ia its.length ic) ∧ w'.cell? ⟨w.heap.size, 2, none⟩ = some (.slice (some ⟨b, off, none⟩) rls.length rc) ∧ w'.cell? ⟨b, off + k * 2, none⟩ = some (.slice A xs.length c) ∧ w'.cell? ⟨b, off + k * 2 + 1, none⟩ = some (.int .i64 t) ∧ Below wr.heap.size wr w') (first | exact S0.out.drew | exact S0.out | exact RulS.keep (by assumption) (by assumption))
                      (first | (go_at_call 50; refine (HC.out _ ?_).mono ?_; (exact RulS.below (by assumption)); rintro en w5 ⟨hb5, rfl⟩))
                    have hHeld : RulS w wr P (.slice ia its.length ic) (.slice (some ⟨b, off, none⟩) rls.length rc) ⟨b, off + k * 2, none⟩ ⟨b, off + k * 2 + 1, none⟩ (.slice A xs.length c) (.int .i64 t) w5 := by assumption
                    have hS5 := HS.out.keep hHeld.below
                    clear hHeld
                    go_wp2
                    go_ret
                    exact ⟨hS5.below, ret_int (by rw [HR2.out, HA.out, HD.out]; rfl)⟩
                  | true =>
                    rw [hr] at HC HD
                    clear hr
                    go_wp2
                    clear a0 a1 a2 c0 c1
                    go_region_held3 (fun w' => w'.cell? ⟨w.heap.size, 0, none⟩ = some (.int .i64 P) ∧ w'.cell? ⟨w.heap.size, 1, none⟩ = some (.slice ia its.length ic) ∧ w'.cell? ⟨w.heap.size, 2, none⟩ = some (.slice (some ⟨b, off, none⟩) rls.length rc) ∧ w'.cell? ⟨b, off + k * 2, none⟩ = some (.slice A xs.length c) ∧ w'.cell? ⟨b, off + k * 2 + 1, none⟩ = some (.int .i64 t) ∧ Below wr.heap.size wr w') (first | exact S0.out.drew | exact S0.out | exact RulS.keep (by assumption) (by assumption))
                      (first | (go_at_call 50; refine (HC.out _ ?_).mono ?_; (exact RulS.below (by assumption)); rintro en w5 ⟨hb5, rfl⟩))
                    have hHeld : RulS w wr P (.slice ia its.length ic) (.slice (some ⟨b, off, none⟩) rls.length rc) ⟨b, off + k * 2, none⟩ ⟨b, off + k * 2 + 1, none⟩ (.slice A xs.length c) (.int .i64 t) w5 := by assumption
                    have hS5 := HS.out.keep hHeld.below
                    clear hHeld
                    go_wp2
                    go_roundw
                    case rel => exact ⟨k + 1, by omega, by go_num, by unfold Hid; rw [HA.out, HD.out]; rfl, hS5⟩
                    case measure => simp [intOf]; omega
                · go_wp2
                  go_ret
                  exact ⟨hB, ret_int (by rw [HR2.out, HA.out, List.drop_of_length_le (by omega)]; rfl)⟩
set_option maxRecDepth 100000 in
set_option maxHeartbeats 2000000 in
theorem rnamed_any (P : Int) (ia : Option Addr) (its : List ItemL) (ic : Nat) (ra : Option Addr) (rls : List RuleL) (rc : Nat) (item : Int) (w : World) (h : BookAt w P ia its ra rls) :
  Calls Try.prog 55 #[.agg #[.int .i64 P, .slice ia its.length ic, .slice ra rls.length rc], .int .i64 item] w (IntR w (checkIt P its rls item)) := by
  have S0 := ValS.made w P (.slice ia its.length ic) (.slice ra rls.length rc)
  have hA := h.below S0.below
  have hl1 := h.items.len
  by_cases hz : validB P its rls = 0
  · have HR := hid (show checkIt P its rls item = if 0 ≤ item ∧ item < (its.length : Int) then 0 else 5 by rw [checkIt, if_neg (by simp [hz])])
    have HZ := hid hz
    have HS0 := hid S0
    clear hz S0
    by_cases i0 : item < 0
    · go_enter Try.func55, Try.ntmps55
      go_wp2_with fail
      refine (rvalidB_any _ _ _ _ _ _ _ _ hA).mono ?_
      rintro e w1 ⟨hb, rfl⟩
      have hS := HS0.out.keep hb
      rw [HZ.out]
      go_wp2
      go_ret
      exact ⟨hS.below, ret_int (by rw [HR.out, if_neg (by omega)])⟩
    · have i0' : 0 ≤ item := by omega
      by_cases i1 : item < (its.length : Int)
      all_goals
        go_enter Try.func55, Try.ntmps55
        go_wp2_with fail
        refine (rvalidB_any _ _ _ _ _ _ _ _ hA).mono ?_
        rintro e w1 ⟨hb, rfl⟩
        have hS := HS0.out.keep hb
        obtain ⟨a0, a1, a2, hB⟩ := id hS
        rw [HZ.out]
        go_wp2
        go_ret
        exact ⟨hB, ret_int (by rw [HR.out]; first | rw [if_pos (by omega)] | rw [if_neg (by omega)])⟩
  · have hz' : (validB P its rls != 0) = true := by simp [hz]
    have HR := hid (show checkIt P its rls item = validB P its rls by rw [checkIt, if_pos hz])
    have HS0 := hid S0
    clear hz S0
    go_enter Try.func55, Try.ntmps55
    go_wp2_with fail
    refine (rvalidB_any _ _ _ _ _ _ _ _ hA).mono ?_
    rintro e w1 ⟨hb, rfl⟩
    have hS := HS0.out.keep hb
    go_wp2
    go_ret
    exact ⟨hS.below, ret_int HR.out.symm⟩

end Go.Proofs.Ytdgleicpcjfnoaa
