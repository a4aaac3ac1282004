/- The law TopDays: the ways on which it ends early, and all ways together. -/
import Derived.Test.YtilolaednbcaoaaTopDaysW
set_option linter.unusedVariables false
namespace Go.Proofs.Ytilolaednbcaoaa
open Go.RowKit

set_option maxRecDepth 100000 in
set_option maxHeartbeats 4000000 in
theorem topDays_long (L : Int) (ra : Option Addr) (rs : List Int) (rc : Nat) (ca : Option Addr) (cs : List Int) (cc : Nat) (m f k dy : Int) (w : World)
  (h1 : rs.length ≤ 9223372036854775807) (h2 : cs.length ≤ 9223372036854775807) (hl : longB rs cs = true) :
  Calls Try.prog 8 #[.agg #[.int .i64 L, .slice ra rs.length rc, .slice ca cs.length cc], .agg #[.int .i64 m, .int .i64 f, .int .i64 k], .int .i64 dy] w (BoolR w true) := by
  have HS0 := hid (TDs.made w L (.slice ra rs.length rc) (.slice ca cs.length cc) m f k)
  go_enter Try.func8, Try.ntmps8
  go_wp2_with fail
  refine (weekly_any _).mono ?_
  rintro e w1 ⟨q1, a, ac, rfl, hT1⟩
  have HS1 := hid (HS0.out.keep q1)
  have HC := count_any 7 a [5, 6] ac none [] 0 0 7 w1 hT1
  simp only [List.length_cons, List.length_nil, Nat.zero_add, Nat.reduceAdd] at HC
  rw [week_count] at HC
  have HC' := hid HC
  clear HC q1 hT1 HS0
  go_wp2_with fail
  refine HC'.out.mono ?_
  clear HC'
  rintro e w2 ⟨q2, rfl⟩
  have HS2 := hid (HS1.out.keep q2)
  obtain ⟨⟨a0, a1, a2⟩, ⟨b0, b1, b2⟩, _⟩ := HS2.out
  clear q2 HS1
  go_wp2_with fail
  refine (long_any _ _ _ _ _ _ _ _ h1 h2).mono ?_
  rintro e w3 ⟨q3, rfl⟩
  have HS3 := hid (HS2.out.keep q3)
  clear q3 HS2 a0 a1 a2 b0 b1 b2
  obtain ⟨⟨a0, a1, a2⟩, ⟨b0, b1, b2⟩, _⟩ := HS3.out
  rw [hl]
  go_wp2
  go_ret
  exact ⟨HS3.out.2.2, rfl⟩

set_option maxRecDepth 100000 in
set_option maxHeartbeats 4000000 in
theorem topDays_bad (L : Int) (ra : Option Addr) (rs : List Int) (rc : Nat) (ca : Option Addr) (cs : List Int) (cc : Nat) (m f k dy : Int) (w : World)
  (h1 : rs.length ≤ 9223372036854775807) (h2 : cs.length ≤ 9223372036854775807) (hl : longB rs cs = false) (hv : validT L rs cs ≠ 0) (hT : TermAt w L ra rs ca cs) :
  Calls Try.prog 8 #[.agg #[.int .i64 L, .slice ra rs.length rc, .slice ca cs.length cc], .agg #[.int .i64 m, .int .i64 f, .int .i64 k], .int .i64 dy] w (BoolR w true) := by
  have HS0 := hid (TDs.made w L (.slice ra rs.length rc) (.slice ca cs.length cc) m f k)
  have HT := hid hT
  have hv' : (validT L rs cs != 0) = true := by simp [hv]
  clear hT hv
  go_enter Try.func8, Try.ntmps8
  go_wp2_with fail
  refine (weekly_any _).mono ?_
  rintro e w1 ⟨q1, a, ac, rfl, hT1⟩
  have HS1 := hid (HS0.out.keep q1)
  have HC := count_any 7 a [5, 6] ac none [] 0 0 7 w1 hT1
  simp only [List.length_cons, List.length_nil, Nat.zero_add, Nat.reduceAdd] at HC
  rw [week_count] at HC
  have HC' := hid HC
  clear HC q1 hT1 HS0
  go_wp2_with fail
  refine HC'.out.mono ?_
  clear HC'
  rintro e w2 ⟨q2, rfl⟩
  have HS2 := hid (HS1.out.keep q2)
  obtain ⟨⟨a0, a1, a2⟩, ⟨b0, b1, b2⟩, _⟩ := HS2.out
  clear q2 HS1
  go_wp2_with fail
  refine (long_any _ _ _ _ _ _ _ _ h1 h2).mono ?_
  rintro e w3 ⟨q3, rfl⟩
  have HS3 := hid (HS2.out.keep q3)
  clear q3 HS2 a0 a1 a2 b0 b1 b2
  obtain ⟨⟨a0, a1, a2⟩, ⟨b0, b1, b2⟩, _⟩ := HS3.out
  rw [hl]
  clear hl
  go_wp2_with fail
  refine (validate_any _ _ _ _ _ _ _ _ (HT.out.below HS3.out.2.2)).mono ?_
  rintro e w4 ⟨q4, rfl⟩
  have HS4 := hid (HS3.out.keep q4)
  generalize validT L rs cs = v at *
  go_wp2
  go_ret
  exact ⟨HS4.out.2.2, rfl⟩

set_option maxRecDepth 100000 in
set_option maxHeartbeats 4000000 in
theorem topDays_badC (L : Int) (ra : Option Addr) (rs : List Int) (rc : Nat) (ca : Option Addr) (cs : List Int) (cc : Nat) (m f k dy : Int) (w : World)
  (h1 : rs.length ≤ 9223372036854775807) (h2 : cs.length ≤ 9223372036854775807) (hl : longB rs cs = false) (hv : validT L rs cs = 0) (hb : badC m f k = true) (hT : TermAt w L ra rs ca cs) :
  Calls Try.prog 8 #[.agg #[.int .i64 L, .slice ra rs.length rc, .slice ca cs.length cc], .agg #[.int .i64 m, .int .i64 f, .int .i64 k], .int .i64 dy] w (BoolR w true) := by
  have HS0 := hid (TDs.made w L (.slice ra rs.length rc) (.slice ca cs.length cc) m f k)
  have HT := hid hT
  have HV := hid hv
  clear hT hv
  go_enter Try.func8, Try.ntmps8
  go_wp2_with fail
  refine (weekly_any _).mono ?_
  rintro e w1 ⟨q1, a, ac, rfl, hT1⟩
  have HS1 := hid (HS0.out.keep q1)
  have HC := count_any 7 a [5, 6] ac none [] 0 0 7 w1 hT1
  simp only [List.length_cons, List.length_nil, Nat.zero_add, Nat.reduceAdd] at HC
  rw [week_count] at HC
  have HC' := hid HC
  clear HC q1 hT1 HS0
  go_wp2_with fail
  refine HC'.out.mono ?_
  clear HC'
  rintro e w2 ⟨q2, rfl⟩
  have HS2 := hid (HS1.out.keep q2)
  obtain ⟨⟨a0, a1, a2⟩, ⟨b0, b1, b2⟩, _⟩ := HS2.out
  clear q2 HS1
  go_wp2_with fail
  refine (long_any _ _ _ _ _ _ _ _ h1 h2).mono ?_
  rintro e w3 ⟨q3, rfl⟩
  have HS3 := hid (HS2.out.keep q3)
  clear q3 HS2 a0 a1 a2 b0 b1 b2
  obtain ⟨⟨a0, a1, a2⟩, ⟨b0, b1, b2⟩, _⟩ := HS3.out
  rw [hl]
  clear hl
  go_wp2_with fail
  refine (validate_any _ _ _ _ _ _ _ _ (HT.out.below HS3.out.2.2)).mono ?_
  rintro e w4 ⟨q4, rfl⟩
  rw [HV.out]
  have HS4 := hid (HS3.out.keep q4)
  clear q4 HS3 a0 a1 a2 b0 b1 b2
  obtain ⟨⟨a0, a1, a2⟩, ⟨b0, b1, b2⟩, _⟩ := HS4.out
  go_wp2_with fail
  refine (validateCycle_any _ _ _ _).mono ?_
  rintro e w5 ⟨q5, rfl⟩
  rw [show validC m f k = 1 by simp [validC, hb]]
  have HS5 := hid (HS4.out.keep q5)
  go_wp2
  go_ret
  exact ⟨HS5.out.2.2, rfl⟩

theorem topDays_walk (L : Int) (ra : Option Addr) (rs : List Int) (rc : Nat) (ca : Option Addr) (cs : List Int) (cc : Nat) (m f k dy : Int) (w : World)
  (h1 : rs.length ≤ 9223372036854775807) (h2 : cs.length ≤ 9223372036854775807) (hT : rs.length ≤ 140737488355328 → cs.length ≤ 140737488355328 → TermAt w L ra rs ca cs) :
  Calls Try.prog 8 #[.agg #[.int .i64 L, .slice ra rs.length rc, .slice ca cs.length cc], .agg #[.int .i64 m, .int .i64 f, .int .i64 k], .int .i64 dy] w (BoolR w true) := by
  cases hl : longB rs cs with
  | true => exact topDays_long L ra rs rc ca cs cc m f k dy w h1 h2 hl
  | false =>
    have hlen := longB_false hl
    have hT' := hT (by omega) (by omega)
    by_cases hv : validT L rs cs = 0
    · cases hb : badC m f k with
      | true => exact topDays_badC L ra rs rc ca cs cc m f k dy w h1 h2 hl hv hb hT'
      | false =>
        obtain ⟨v1, _⟩ := validT_ok hv
        obtain ⟨c1, _⟩ := validC_ok hb
        obtain ⟨N, rfl⟩ := Int.eq_ofNat_of_zero_le (show 0 ≤ L by omega)
        obtain ⟨mn, rfl⟩ := Int.eq_ofNat_of_zero_le (show 0 ≤ m by omega)
        exact topDays_main N ra rs rc ca cs cc mn f k dy w h1 h2 hl hv hb hT'
    · exact topDays_bad L ra rs rc ca cs cc m f k dy w h1 h2 hl hv hT'
end Go.Proofs.Ytilolaednbcaoaa
