/- Books in memory; the Go functions isSet, isProp, isItem, isRule, Validate, checkItem of package dish. -/
import Derived.Test.YtdgleicpcjfnoaaRes
import Derived.Test.YtdgleicpcjfnoaaProofN
set_option linter.unusedVariables false
namespace Go.Proofs.Ytdgleicpcjfnoaa
open Go.RowKit

/-- A slice of items that reads as the list its. -/
structure ItemsAt (w : World) (a : Option Addr) (its : List ItemL) : Prop where
  len : its.length ≤ 140737488355328
  at_ : its = [] ∨ ∃ b off, a = some ⟨b, off, none⟩ ∧ ∀ i, i < its.length → ∃ A c B d, w.cell? ⟨b, off + i * 2, none⟩ = some (.slice A (its[i]?.getD ([], [])).1.length c) ∧ w.cell? ⟨b, off + i * 2 + 1, none⟩ = some (.slice B (its[i]?.getD ([], [])).2.length d) ∧
    Ints w A (its[i]?.getD ([], [])).1 ∧ Ints w B (its[i]?.getD ([], [])).2
structure RulesAt (w : World) (a : Option Addr) (rls : List RuleL) : Prop where
  len : rls.length ≤ 140737488355328
  at_ : rls = [] ∨ ∃ b off, a = some ⟨b, off, none⟩ ∧ ∀ i, i < rls.length → ∃ A c, w.cell? ⟨b, off + i * 2, none⟩ = some (.slice A (rls[i]?.getD ([], 0)).1.length c) ∧ w.cell? ⟨b, off + i * 2 + 1, none⟩ = some (.int .i64 (rls[i]?.getD ([], 0)).2) ∧
    Ints w A (rls[i]?.getD ([], 0)).1 ∧ (-9223372036854775808 ≤ (rls[i]?.getD ([], 0)).2 ∧ (rls[i]?.getD ([], 0)).2 ≤ 9223372036854775807)
structure BookAt (w : World) (P : Int) (ia : Option Addr) (its : List ItemL) (ra : Option Addr) (rls : List RuleL) : Prop where
  items : ItemsAt w ia its
  rules : RulesAt w ra rls
  lo : -9223372036854775808 ≤ P
  hi : P ≤ 9223372036854775807

theorem ItemsAt.below {w w' : World} {a : Option Addr} {its : List ItemL} (h : ItemsAt w a its) (hb : Below w.heap.size w w') : ItemsAt w' a its := by
  refine ⟨h.len, ?_⟩
  rcases h.at_ with e | ⟨b, off, ha, hc⟩
  · exact .inl e
  · refine .inr ⟨b, off, ha, fun i hi => ?_⟩
    obtain ⟨A, c, B, d, h1, h2, h3, h4⟩ := hc i hi
    exact ⟨A, c, B, d, by rw [hb.cell (cell_lt h1)]; exact h1, by rw [hb.cell (cell_lt h2)]; exact h2, h3.below hb, h4.below hb⟩
theorem RulesAt.below {w w' : World} {a : Option Addr} {rls : List RuleL} (h : RulesAt w a rls) (hb : Below w.heap.size w w') : RulesAt w' a rls := by
  refine ⟨h.len, ?_⟩
  rcases h.at_ with e | ⟨b, off, ha, hc⟩
  · exact .inl e
  · refine .inr ⟨b, off, ha, fun i hi => ?_⟩
    obtain ⟨A, c, h1, h2, h3, h4⟩ := hc i hi
    exact ⟨A, c, by rw [hb.cell (cell_lt h1)]; exact h1, by rw [hb.cell (cell_lt h2)]; exact h2, h3.below hb, h4⟩
theorem Ints.up {n : Nat} {w w' : World} {a : Option Addr} {xs : List Int} (h : Ints w a xs) (hb : Below n w w') (hn : w.heap.size ≤ n) : Ints w' a xs := h.below (hb.mono hn)
theorem BookAt.below {w w' : World} {P : Int} {ia : Option Addr} {its : List ItemL} {ra : Option Addr} {rls : List RuleL} (h : BookAt w P ia its ra rls) (hb : Below w.heap.size w w') : BookAt w' P ia its ra rls :=
  ⟨h.items.below hb, h.rules.below hb, h.lo, h.hi⟩

set_option maxRecDepth 100000 in
set_option maxHeartbeats 2000000 in
theorem isSet_any (a : Option Addr) (xs : List Int) (cap : Nat) (e : Int) (w : World) (h : Ints w a xs) :
  Calls Try.prog 47 #[.slice a xs.length cap, .int .i64 e] w fun en w' => w = w' ∧ en = .returned (.bool (isSetFrom 0 e xs)) := by
  have hlen := h.len
  have HH := hid h
  clear h
  go_enter Try.func47, Try.ntmps47
  go_wp2
  go_loop [9] (fun i => ∃ (k : Nat), k ≤ xs.length ∧ i = .int .i64 k ∧ Hid (isSetFrom 0 e xs = isSetFrom (lastNext xs k) e (xs.drop k) ∧ 0 ≤ lastNext xs k)) (fun i => xs.length - (intOf i).toNat)
  case atStart => exact ⟨0, Nat.zero_le _, rfl, ⟨rfl, Int.le_refl _⟩⟩
  case round =>
    obtain ⟨k, hk, rfl, HS⟩ := hrel
    by_cases hlt : k < xs.length
    · rcases HH.out.at_ with e' | ⟨b, off, rfl, hc⟩
      · rw [e'] at hlt; simp at hlt
      have g := hc k hlt
      have HD := hid (isSetFrom_drop (lastNext xs k) e xs k hlt)
      have HN := hid (show lastNext xs (k + 1) = xs[k]?.getD 0 + 1 from rfl)
      by_cases hk0 : k = 0
      · subst hk0
        clear hc
        rw [Nat.add_zero] at g
        generalize xs[0]?.getD 0 = x at *
        by_cases h1 : x < 0
        · have HX := hid (show x < lastNext xs 0 ∨ e ≤ x from .inl h1)
          go_wp2
          go_ret
          exact ⟨rfl, ret_bool (by rw [HS.out.1, HD.out, if_pos HX.out])⟩
        · by_cases h2 : e ≤ x
          · have HX := hid (show x < lastNext xs 0 ∨ e ≤ x from .inr h2)
            have h1' : 0 ≤ x := by omega
            go_wp2
            go_ret
            exact ⟨rfl, ret_bool (by rw [HS.out.1, HD.out, if_pos HX.out])⟩
          · have HX := hid (show ¬ (x < lastNext xs 0 ∨ e ≤ x) by show ¬ (x < 0 ∨ e ≤ x); omega)
            have h1' : 0 ≤ x := by omega
            have h2' : x < e := by omega
            clear h1 h2
            go_wp2
            go_round
            case rel => exact ⟨1, by omega, by go_num, ⟨by rw [HS.out.1, HD.out, HN.out, if_neg HX.out], by rw [HN.out]; omega⟩⟩
            case measure => simp [intOf]; omega
      · obtain ⟨j, rfl⟩ : ∃ j, k = j + 1 := ⟨k - 1, by omega⟩
        have g2 := hc j (by omega)
        have HL := hid (show lastNext xs (j + 1) = xs[j]?.getD 0 + 1 from rfl)
        have hj : (0 : Int) < ((j + 1 : Nat) : Int) := by omega
        have hbj := HH.out.bdAt j (by omega)
        clear hc
        generalize xs[j + 1]?.getD 0 = x at *
        generalize xs[j]?.getD 0 = y at *
        by_cases h1 : x < 0
        · have HX := hid (show x < lastNext xs (j + 1) ∨ e ≤ x by have := HS.out.2; omega)
          go_wp2
          go_ret
          exact ⟨rfl, ret_bool (by rw [HS.out.1, HD.out, if_pos HX.out])⟩
        · have h1' : 0 ≤ x := by omega
          by_cases h2 : e ≤ x
          · have HX := hid (show x < lastNext xs (j + 1) ∨ e ≤ x from .inr h2)
            go_wp2
            go_ret
            exact ⟨rfl, ret_bool (by rw [HS.out.1, HD.out, if_pos HX.out])⟩
          · have h2' : x < e := by omega
            by_cases h3 : x ≤ y
            · have HX := hid (show x < lastNext xs (j + 1) ∨ e ≤ x by have := HL.out; omega)
              go_wp2
              go_ret
              exact ⟨rfl, ret_bool (by rw [HS.out.1, HD.out, if_pos HX.out])⟩
            · have h3' : y < x := by omega
              have HX := hid (show ¬ (x < lastNext xs (j + 1) ∨ e ≤ x) by have := HL.out; omega)
              clear h1 h2 h3
              go_wp2
              go_round
              case rel => exact ⟨j + 2, by omega, by go_num, ⟨by rw [HS.out.1, HD.out, HN.out, if_neg HX.out], by rw [HN.out]; omega⟩⟩
              case measure => simp [intOf]; omega
    · go_wp2
      go_ret
      exact ⟨rfl, ret_bool (by rw [HS.out.1, List.drop_of_length_le (by omega)]; rfl)⟩

set_option maxHeartbeats 1000000 in
theorem isProp_any (P : Int) (i r : Value) (p : Int) (w : World) :
  Calls Try.prog 94 #[.agg #[.int .i64 P, i, r], .int .i64 p] w (BoolR w (decide (0 ≤ p ∧ p < P))) := by
  have hB := (Below.refl w.heap.size w).alloc (Nat.le_refl _) (.cells #[.int .i64 P, i, r] 25)
  by_cases h0 : 0 ≤ p
  · have HR := hid (show decide (0 ≤ p ∧ p < P) = decide (p < P) by simp [h0])
    go_enter Try.func94, Try.ntmps94
    go_wp2
    go_ret
    exact ⟨hB, ret_bool (by rw [HR.out])⟩
  · have HR := hid (show decide (0 ≤ p ∧ p < P) = false by simp [h0])
    have h0' : p < 0 := by omega
    go_enter Try.func94, Try.ntmps94
    go_wp2
    go_ret
    exact ⟨hB, ret_bool (by simp; omega)⟩
set_option maxHeartbeats 1000000 in
theorem isItem_any (P : Int) (ia : Option Addr) (n ic : Nat) (r : Value) (p : Int) (w : World) (hn : n ≤ 9223372036854775807) :
  Calls Try.prog 96 #[.agg #[.int .i64 P, .slice ia n ic, r], .int .i64 p] w (BoolR w (decide (0 ≤ p ∧ p < (n : Int)))) := by
  have hB := (Below.refl w.heap.size w).alloc (Nat.le_refl _) (.cells #[.int .i64 P, .slice ia n ic, r] 25)
  by_cases h0 : 0 ≤ p
  · have HR := hid (show decide (0 ≤ p ∧ p < (n : Int)) = decide (p < (n : Int)) by simp [h0])
    go_enter Try.func96, Try.ntmps96
    go_wp2
    go_ret
    exact ⟨hB, ret_bool (by rw [HR.out])⟩
  · have HR := hid (show decide (0 ≤ p ∧ p < (n : Int)) = false by simp [h0])
    have h0' : p < 0 := by omega
    go_enter Try.func96, Try.ntmps96
    go_wp2
    go_ret
    exact ⟨hB, ret_bool (by simp; omega)⟩

set_option maxRecDepth 100000 in
set_option maxHeartbeats 1000000 in
theorem isRule_any (P : Int) (i r : Value) (a : Option Addr) (xs : List Int) (cap : Nat) (t : Int) (w : World) (h : Ints w a xs) :
  Calls Try.prog 48 #[.agg #[.int .i64 P, i, r], .agg #[.slice a xs.length cap, .int .i64 t]] w (BoolR w (ruleB P (xs, t))) := by
  have hB := ((Below.refl w.heap.size w).alloc (Nat.le_refl _) (.cells #[.int .i64 P, i, r] 25)).alloc (by simp) (.cells #[.slice a xs.length cap, .int .i64 t] 55)
  have hI := h.below hB
  cases hs : isSetFrom 0 P xs with
  | false =>
    go_enter Try.func48, Try.ntmps48
    go_wp2_with fail
    refine (isSet_any _ _ _ _ _ hI).mono ?_
    rintro e w' ⟨rfl, rfl⟩
    rw [hs]
    go_wp2
    go_ret
    exact ⟨hB, ret_bool (by rw [ruleB, hs]; rfl)⟩
  | true =>
    go_enter Try.func48, Try.ntmps48
    go_wp2_with fail
    refine (isSet_any _ _ _ _ _ hI).mono ?_
    rintro e w' ⟨rfl, rfl⟩
    rw [hs]
    go_wp2_with fail
    refine (isProp_any _ _ _ _ _).mono ?_
    rintro e w1 ⟨hb, rfl⟩
    go_wp2
    go_ret
    exact ⟨hB.trans (hb.mono (by simp; omega)), ret_bool (by rw [ruleB, hs]; simp)⟩

set_option maxRecDepth 100000 in
set_option maxHeartbeats 4000000 in
theorem validateB_any (P : Int) (ia : Option Addr) (its : List ItemL) (ic : Nat) (ra : Option Addr) (rls : List RuleL) (rc : Nat) (w : World) (h : BookAt w P ia its ra rls) :
  Calls Try.prog 17 #[.agg #[.int .i64 P, .slice ia its.length ic, .slice ra rls.length rc]] w (IntR w (validB P its rls)) := by
  have hB0 := (Below.refl w.heap.size w).alloc (Nat.le_refl _) (.cells #[.int .i64 P, .slice ia its.length ic, .slice ra rls.length rc] 25)
  have hl1 := h.items.len
  have hl2 := h.rules.len
  by_cases h0 : P < 0
  · have HR := hid (show validB P its rls = 1 by rw [validB, if_pos (.inl h0)])
    go_enter Try.func17, Try.ntmps17
    go_wp2
    go_ret
    exact ⟨hB0, ret_int HR.out.symm⟩
  · by_cases h1 : 10 < P
    · have HR := hid (show validB P its rls = 1 by rw [validB, if_pos (.inr h1)])
      have h0' : 0 ≤ P := by omega
      go_enter Try.func17, Try.ntmps17
      go_wp2
      go_ret
      exact ⟨hB0, ret_int HR.out.symm⟩
    · have h0' : 0 ≤ P := by omega
      have h1' : P ≤ 10 := by omega
      by_cases h2 : 20 < its.length
      · have HR := hid (show validB P its rls = 4 by rw [validB, if_neg (by omega), if_pos (.inl h2)])
        have h2' : (20 : Int) < (its.length : Int) := by omega
        go_enter Try.func17, Try.ntmps17
        go_wp2
        go_ret
        exact ⟨hB0, ret_int HR.out.symm⟩
      · have h2' : (its.length : Int) ≤ 20 := by omega
        by_cases h3 : 16 < rls.length
        · have HR := hid (show validB P its rls = 4 by rw [validB, if_neg (by omega), if_pos (.inr h3)])
          have h3' : (16 : Int) < (rls.length : Int) := by omega
          go_enter Try.func17, Try.ntmps17
          go_wp2
          go_ret
          exact ⟨hB0, ret_int HR.out.symm⟩
        · have h3' : (rls.length : Int) ≤ 16 := by omega
          have HR := hid (show validB P its rls = if itemsE P 0 its ≠ 0 then itemsE P 0 its else rulesE P rls by rw [validB, if_neg (by omega), if_neg (by omega)])
          clear h0 h1 h2 h3
          go_enter Try.func17, Try.ntmps17
          go_wp2
          go_loopw [28] (fun i wr => ∃ k : Nat, k ≤ its.length ∧ i = .int .i64 k ∧ Hid (itemsE P 0 its = itemsE P k (its.drop k)) ∧ Below w.heap.size w wr ∧ w.heap.size < wr.heap.size ∧
            wr.cell? ⟨w.heap.size, 0, none⟩ = some (.int .i64 P) ∧ wr.cell? ⟨w.heap.size, 1, none⟩ = some (.slice ia its.length ic) ∧ wr.cell? ⟨w.heap.size, 2, none⟩ = some (.slice ra rls.length rc)) (fun i _ => its.length - (intOf i).toNat)
          case atStart => exact ⟨0, Nat.zero_le _, rfl, rfl, hB0, by simp, by go_simp, by go_simp, by go_simp⟩
          case round =>
            clear hB0
            obtain ⟨k, hk, rfl, HA, hB, hsz, a0, a1, a2⟩ := hrel
            by_cases hlt : k < its.length
            · rcases (h.items.below hB).at_ with e | ⟨b, off, rfl, hc⟩
              · rw [e] at hlt; simp at hlt
              obtain ⟨A, c, B, d, c0, c1, hA, hBd⟩ := hc k hlt
              have HD := hid (itemsE_drop P its k hlt)
              have hbl := cell_lt c0
              have hlA := hA.len
              clear hc
              generalize (its[k]?.getD ([], [])).1 = ps at *
              generalize (its[k]?.getD ([], [])).2 = hs at *
              have q1 := (Below.refl wr.heap.size wr).alloc (Nat.le_refl _) (.cells #[.slice A ps.length c, .slice B hs.length d] 76)
              have hB2 := hB.trans (q1.mono hB.size)
              have hA2 := hA.below q1
              have hBd2 := hBd.below q1
              clear hA hBd q1
              by_cases h6 : 6 < ps.length
              · have h6' : (6 : Int) < (ps.length : Int) := by omega
                go_wp2
                go_ret
                exact ⟨hB2, ret_int (by rw [HR.out, HA.out, HD.out, if_pos h6]; rfl)⟩
              · have h6' : (ps.length : Int) ≤ 6 := by omega
                have HD2 := hid ((HD.out).trans (if_neg h6))
                clear h6
                cases hs1 : isSetFrom 0 (k : Int) ps with
                | false =>
                  go_wp2_with fail
                  refine (isSet_any _ _ _ _ _ hA2).mono ?_
                  rintro e w' ⟨rfl, rfl⟩
                  rw [hs1]
                  go_wp2
                  go_ret
                  exact ⟨hB2, ret_int (by rw [HR.out, HA.out, HD2.out, hs1]; rfl)⟩
                | true =>
                  cases hs2 : isSetFrom 0 P hs with
                  | false =>
                    go_wp2_with fail
                    refine (isSet_any _ _ _ _ _ hA2).mono ?_
                    rintro e w' ⟨rfl, rfl⟩
                    rw [hs1]
                    go_wp2_with fail
                    refine (isSet_any _ _ _ _ _ hBd2).mono ?_
                    rintro e w' ⟨rfl, rfl⟩
                    rw [hs2]
                    go_wp2
                    go_ret
                    exact ⟨hB2, ret_int (by rw [HR.out, HA.out, HD2.out, hs1, hs2]; rfl)⟩
                  | true =>
                    go_wp2_with fail
                    refine (isSet_any _ _ _ _ _ hA2).mono ?_
                    rintro e w' ⟨rfl, rfl⟩
                    rw [hs1]
                    go_wp2_with fail
                    refine (isSet_any _ _ _ _ _ hBd2).mono ?_
                    rintro e w' ⟨rfl, rfl⟩
                    rw [hs2]
                    go_wp2
                    go_roundw
                    case rel => exact ⟨k + 1, by omega, by go_num, by unfold Hid; rw [HA.out, HD2.out, hs1, hs2]; rfl, hB2, by simp; omega, by go_simp, by go_simp, by go_simp⟩
                    case measure => simp [intOf]; omega
            · have HI := hid (show itemsE P 0 its = 0 by rw [HA.out, List.drop_of_length_le (by omega)]; rfl)
              have HR2 := hid (show validB P its rls = rulesE P rls by rw [HR.out, if_neg (by simp [HI.out])])
              have HR0 := hid h.rules
              clear HA HR h
              go_wp2
              obtain ⟨wo, rfl⟩ : ∃ wo : World, wo = wr := ⟨_, rfl⟩
              go_loopw [54] (fun i wr => ∃ k : Nat, k ≤ rls.length ∧ i = .int .i64 k ∧ Hid (rulesE P rls = rulesE P (rls.drop k)) ∧ Below w.heap.size w wr ∧ w.heap.size < wr.heap.size ∧
                wr.cell? ⟨w.heap.size, 0, none⟩ = some (.int .i64 P) ∧ wr.cell? ⟨w.heap.size, 1, none⟩ = some (.slice ia its.length ic) ∧ wr.cell? ⟨w.heap.size, 2, none⟩ = some (.slice ra rls.length rc)) (fun i _ => rls.length - (intOf i).toNat)
              case atStart => exact ⟨0, Nat.zero_le _, rfl, rfl, hB, hsz, a0, a1, a2⟩
              case round =>
                clear hB hsz a0 a1 a2 hk hlt
                obtain ⟨k, hk, rfl, HA, hB, hsz, a0, a1, a2⟩ := hrel
                by_cases hlt : k < rls.length
                · rcases ((HR0.out).below hB).at_ with e | ⟨b, off, rfl, hc⟩
                  · rw [e] at hlt; simp at hlt
                  obtain ⟨A, c, c0, c1, hA, hbd⟩ := hc k hlt
                  have HD := hid (rulesE_drop P rls k hlt)
                  have hbl := cell_lt c0
                  have hlA := hA.len
                  have HX := hid (show rls[k]?.getD ([], 0) = ((rls[k]?.getD ([], 0)).1, (rls[k]?.getD ([], 0)).2) from rfl)
                  rw [HX.out] at HD
                  clear hc HX
                  generalize (rls[k]?.getD ([], 0)).1 = xs at *
                  generalize (rls[k]?.getD ([], 0)).2 = t at *
                  have q1 := (Below.refl wr.heap.size wr).alloc (Nat.le_refl _) (.cells #[.slice A xs.length c, .int .i64 t] 55)
                  have hB2 := hB.trans (q1.mono hB.size)
                  have hA2 := hA.below q1
                  clear hA q1
                  cases hr : ruleB P (xs, t) with
                  | false =>
                    go_wp2_with fail
                    refine (isRule_any _ _ _ _ _ _ _ _ hA2).mono ?_
                    rintro e w2 ⟨hb2, rfl⟩
                    rw [hr]
                    have p2 := hB2.trans (hb2.mono hB2.size)
                    go_wp2
                    go_ret
                    exact ⟨p2, ret_int (by rw [HR2.out, HA.out, HD.out, hr]; rfl)⟩
                  | true =>
                    go_wp2_with fail
                    refine (isRule_any _ _ _ _ _ _ _ _ hA2).mono ?_
                    rintro e w2 ⟨hb2, rfl⟩
                    rw [hr]
                    have p2 := hB2.trans (hb2.mono hB2.size)
                    have hs2 := hb2.size
                    simp only [World.size_alloc] at hs2
                    have e0 : w2.cell? ⟨w.heap.size, 0, none⟩ = some (.int .i64 P) := by rw [hb2.cell (by simp; omega)]; go_simp
                    have e1 : w2.cell? ⟨w.heap.size, 1, none⟩ = some (.slice ia its.length ic) := by rw [hb2.cell (by simp; omega)]; go_simp
                    have e2 : w2.cell? ⟨w.heap.size, 2, none⟩ = some (.slice (some ⟨b, off, none⟩) rls.length rc) := by rw [hb2.cell (by simp; omega)]; go_simp
                    clear a0 a1 a2
                    go_wp2
                    go_roundw
                    case rel => exact ⟨k + 1, by omega, by go_num, by unfold Hid; rw [HA.out, HD.out, hr]; rfl, p2, by omega, e0, e1, e2⟩
                    case measure => simp [intOf]; omega
                · go_wp2
                  go_ret
                  exact ⟨hB, ret_int (by rw [HR2.out, HA.out, List.drop_of_length_le (by omega)]; rfl)⟩

set_option maxRecDepth 100000 in
set_option maxHeartbeats 2000000 in
theorem checkItem_any (P : Int) (ia : Option Addr) (its : List ItemL) (ic : Nat) (ra : Option Addr) (rls : List RuleL) (rc : Nat) (item : Int) (w : World) (h : BookAt w P ia its ra rls) :
  Calls Try.prog 52 #[.agg #[.int .i64 P, .slice ia its.length ic, .slice ra rls.length rc], .int .i64 item] w (IntR w (checkIt P its rls item)) := by
  have hB := (Below.refl w.heap.size w).alloc (Nat.le_refl _) (.cells #[.int .i64 P, .slice ia its.length ic, .slice ra rls.length rc] 25)
  have hA := h.below hB
  have hl1 := h.items.len
  by_cases hz : validB P its rls = 0
  · have HR := hid (show checkIt P its rls item = if 0 ≤ item ∧ item < (its.length : Int) then 0 else 5 by rw [checkIt, if_neg (by simp [hz])])
    have HZ := hid hz
    clear hz
    cases hi : decide (0 ≤ item ∧ item < (its.length : Int))
    all_goals
      go_enter Try.func52, Try.ntmps52
      go_wp2_with fail
      refine (validateB_any _ _ _ _ _ _ _ _ hA).mono ?_
      rintro e w1 ⟨hb, rfl⟩
      have p1 := hB.trans (hb.mono (by simp))
      obtain ⟨d1, d2⟩ := bcell hb
      simp only [World.size_alloc] at d1 d2
      have hs1 := hb.size
      simp only [World.size_alloc] at hs1
      rw [HZ.out]
      go_wp2_with fail
      refine (isItem_any _ _ _ _ _ _ _ (by omega)).mono ?_
      rintro e w2 ⟨hb2, rfl⟩
      rw [hi]
      go_wp2
      go_ret
      refine ⟨p1.trans (hb2.mono p1.size), ret_int ?_⟩
      rw [HR.out]
      simp only [decide_eq_true_eq, decide_eq_false_iff_not] at hi
      simp [hi]
  · have hz' : (validB P its rls != 0) = true := by simp [hz]
    have HR := hid (show checkIt P its rls item = validB P its rls by rw [checkIt, if_pos hz])
    clear hz
    go_enter Try.func52, Try.ntmps52
    go_wp2_with fail
    refine (validateB_any _ _ _ _ _ _ _ _ hA).mono ?_
    rintro e w1 ⟨hb, rfl⟩
    have p1 := hB.trans (hb.mono (by simp))
    go_wp2
    go_ret
    exact ⟨p1, ret_int HR.out.symm⟩

end Go.Proofs.Ytdgleicpcjfnoaa
