/- The law TermDays: its walk. -/
import Derived.Test.YtijfcifoemndeaaLong
import Derived.Test.YtijfcifoemndeaaRDays
import Derived.Test.YtijfcifoemndeaaRLost
import Derived.Test.YtijfcifoemndeaaSame
import Derived.Test.YtijfcifoemndeaaKnown
set_option linter.unusedVariables false
namespace Go.Proofs.Ytijfcifoemndeaa
open Go.RowKit

theorem daysL_facts (L : Int) (rs cs : List Int) (m f k x : Int) : (daysL L rs cs m f k x).1.length ≤ 1000 ∧ ∀ d ∈ (daysL L rs cs m f k x).1, -9223372036854775808 ≤ d ∧ d ≤ 9223372036854775807 := by
  unfold daysL
  split
  · simp
  · rename_i hz
    have hok := validT_ok (checkC_zero (by simpa using hz)).1
    split
    · simp
    · have h1 := Nat.le_trans (dw_len x (mdays L rs cs m f k)) (mdays_len L rs cs m f k)
      exact ⟨by dsimp only; omega, dw_bd hok.2.1 m f k x⟩
theorem servedL_facts (L : Int) (rs cs : List Int) (m f k : Int) : (servedL L rs cs m f k).1.length ≤ 1000 ∧ ∀ d ∈ (servedL L rs cs m f k).1, 0 ≤ d ∧ d ≤ 1000 := by
  unfold servedL
  split
  · simp
  · rename_i hz
    have hok := validT_ok (checkC_zero (by simpa using hz)).1
    have hma := validC_ok (checkC_zero (by simpa using hz)).2
    refine ⟨by dsimp only; rw [srv_len]; omega, ?_⟩
    intro d hd
    simp only [srv, List.mem_map] at hd
    obtain ⟨i, _, rfl⟩ := hd
    have h1 := cntM_bd (i : Int) (mdays L rs cs m f k)
    have h2 := mdays_len L rs cs m f k
    omega
theorem daysL_ok (L : Int) (rs cs : List Int) (m f k x : Int) (h : (daysL L rs cs m f k x).2 = 0) :
    0 ≤ x ∧ x < ((servedL L rs cs m f k).1.length : Int) ∧ (servedL L rs cs m f k).1[x.toNat]?.getD 0 = ((daysL L rs cs m f k x).1.length : Int) := by
  unfold daysL at h ⊢
  split at h
  · rename_i hz; exact absurd h hz
  · rename_i hz
    rw [if_neg hz]
    split at h
    · simp at h
    · rename_i hx
      rw [if_neg hx]
      have hx2 : 0 ≤ x ∧ x < m := by simpa [isMenuB] using hx
      unfold servedL
      rw [if_neg hz]
      dsimp only
      refine ⟨hx2.1, by rw [srv_len]; omega, ?_⟩
      rw [srv_at m.toNat _ x.toNat (by omega), show ((x.toNat : Nat) : Int) = x by omega, cntM_dw]

set_option maxRecDepth 100000 in
set_option maxHeartbeats 4000000 in
theorem days_walk (L : Int) (ra : Option Addr) (rs : List Int) (rc : Nat) (ca : Option Addr) (cs : List Int) (cc : Nat) (m f k x : Int) (w : World)
  (h1 : rs.length ≤ 9223372036854775807) (h2 : cs.length ≤ 9223372036854775807) (hT : rs.length ≤ 140737488355328 → cs.length ≤ 140737488355328 → TermAt w L ra rs ca cs) :
  Calls Try.prog 7 #[.agg #[.int .i64 L, .slice ra rs.length rc, .slice ca cs.length cc], .agg #[.int .i64 m, .int .i64 f, .int .i64 k], .int .i64 x] w (BoolR w true) := by
  have hB := ((Below.refl w.heap.size w).alloc (Nat.le_refl _) (.cells #[.int .i64 L, .slice ra rs.length rc, .slice ca cs.length cc] 24)).alloc (by simp) (.cells #[.int .i64 m, .int .i64 f, .int .i64 k] 26)
  cases hl : longB rs cs with
  | true =>
    go_enter Try.func7, Try.ntmps7
    go_wp2_with fail
    refine (long_any _ _ _ _ _ _ _ _ h1 h2).mono ?_
    rintro e w1 ⟨q1, rfl⟩
    have p1 := hB.trans (q1.mono (by simp; omega))
    rw [hl]
    go_wp2_with fail
    refine (known_any _).mono ?_
    rintro e w2 ⟨q2, rfl⟩
    go_wp2
    go_ret
    exact ⟨p1.trans (q2.mono p1.size), rfl⟩
  | false =>
    have hlen := longB_false hl
    have hT' := hT (by omega) (by omega)
    clear hT
    have HD := hid (daysL_facts L rs cs m f k x)
    have HS := hid (servedL_facts L rs cs m f k)
    have HO := hid (daysL_ok L rs cs m f k x)
    go_enter Try.func7, Try.ntmps7
    go_wp2_with fail
    refine (long_any _ _ _ _ _ _ _ _ h1 h2).mono ?_
    rintro e w1 ⟨q1, rfl⟩
    have p1 := hB.trans (q1.mono (by simp; omega))
    obtain ⟨d1, d2⟩ := bcell q1
    have hs1 := q1.size
    simp only [World.size_alloc] at d1 d2 hs1
    have a0 : w1.cell? ⟨w.heap.size, 0, none⟩ = some (.int .i64 L) := by rw [d1 _ _ (by omega)]; go_simp
    have a1 : w1.cell? ⟨w.heap.size, 1, none⟩ = some (.slice ra rs.length rc) := by rw [d1 _ _ (by omega)]; go_simp
    have a2 : w1.cell? ⟨w.heap.size, 2, none⟩ = some (.slice ca cs.length cc) := by rw [d1 _ _ (by omega)]; go_simp
    have b0 : w1.cell? ⟨w.heap.size + 1, 0, none⟩ = some (.int .i64 m) := by rw [d1 _ _ (by omega)]; go_simp
    have b1 : w1.cell? ⟨w.heap.size + 1, 1, none⟩ = some (.int .i64 f) := by rw [d1 _ _ (by omega)]; go_simp
    have b2 : w1.cell? ⟨w.heap.size + 1, 2, none⟩ = some (.int .i64 k) := by rw [d1 _ _ (by omega)]; go_simp
    clear d1 d2
    rw [hl]
    go_wp2_with fail
    refine (days_any _ _ _ _ _ _ _ _ _ _ _ _ (hT'.below p1)).mono ?_
    rintro e w2 ⟨q2, v2, rfl, o2⟩
    have p2 := p1.trans (q2.mono p1.size)
    have hs2 := q2.size
    rw [← q2.cell (by simp; omega)] at a0 a1 a2 b0 b1 b2
    obtain ⟨A2, c2, rfl, i2⟩ := o2.ints (by have := HD.out.1; omega) HD.out.2
    clear o2
    go_wp2_with fail
    refine (rdays_any _ _ _ _ _ _ _ _ _ _ _ _ (hT'.below p2)).mono ?_
    rintro e w3 ⟨q3, v3, rfl, o3⟩
    have p3 := p2.trans (q3.mono p2.size)
    have hs3 := q3.size
    rw [← q3.cell (by simp; omega)] at a0 a1 a2 b0 b1 b2
    have i23 := i2.below q3
    obtain ⟨A3, c3, rfl, i3⟩ := o3.ints (by have := HD.out.1; omega) HD.out.2
    clear o3 i2
    go_wp2_with fail
    refine (served_any _ _ _ _ _ _ _ _ _ _ _ (hT'.below p3)).mono ?_
    rintro e w4 ⟨q4, v4, rfl, o4⟩
    have p4 := p3.trans (q4.mono p3.size)
    have hs4 := q4.size
    rw [← q4.cell (by simp; omega)] at a0 a1 a2 b0 b1 b2
    have i24 := i23.below q4
    have i34 := i3.below q4
    obtain ⟨A4, c4, rfl, i4⟩ := o4.ints (by have := HS.out.1; omega) (fun d hd => by have := HS.out.2 d hd; omega)
    clear o4 i23 i3
    go_wp2_with fail
    refine (rserved_any _ _ _ _ _ _ _ _ _ _ _ (hT'.below p4)).mono ?_
    rintro e w5 ⟨q5, v5, rfl, o5⟩
    have p5 := p4.trans (q5.mono p4.size)
    have hs5 := q5.size
    rw [← q5.cell (by simp; omega)] at a0 a1 a2 b0 b1 b2
    have i25 := i24.below q5
    have i35 := i34.below q5
    have i45 := i4.below q5
    obtain ⟨A5, c5, rfl, i5⟩ := o5.ints (by have := HS.out.1; omega) (fun d hd => by have := HS.out.2 d hd; omega)
    clear o5 i24 i34 i4
    go_wp2_with fail
    refine (lost_any _ _ _ _ _ _ _ _ _ _ _ (hT'.below p5)).mono ?_
    rintro e w6 ⟨q6, rfl⟩
    have p6 := p5.trans (q6.mono p5.size)
    have hs6 := q6.size
    rw [← q6.cell (by simp; omega)] at a0 a1 a2 b0 b1 b2
    have i26 := i25.below q6
    have i36 := i35.below q6
    have i46 := i45.below q6
    have i56 := i5.below q6
    clear i25 i35 i45 i5
    go_wp2_with fail
    refine (rlost_any _ _ _ _ _ _ _ _ _ _ _ (hT'.below p6)).mono ?_
    rintro e w7 ⟨q7, rfl⟩
    have p7 := p6.trans (q7.mono p6.size)
    have hs7 := q7.size
    have i27 := i26.below q7
    have i37 := i36.below q7
    have i47 := i46.below q7
    have i57 := i56.below q7
    clear i26 i36 i46 i56 a0 a1 a2 b0 b1 b2 q1 q2 q3 q4 q5 q6 q7
    generalize (lostL L rs cs m f k).1 = ln at *
    generalize (lostL L rs cs m f k).2 = le at *
    generalize daysL L rs cs m f k x = dl at *
    generalize servedL L rs cs m f k = sl at *
    obtain ⟨dl, de⟩ := dl
    obtain ⟨sl, se⟩ := sl
    simp only at *
    have hsame1 := same_any A2 A3 dl dl c2 c3 w7 i27 i37
    rw [show sameB dl dl = true by simp [sameB]] at hsame1
    have HS1 := hid hsame1
    clear hsame1
    go_wp2_with fail
    refine (HS1.out).mono ?_
    rintro e w8 ⟨⟨n8, rfl⟩, rfl⟩
    have hsame2 := same_any A4 A5 sl sl c4 c5 (w7.drewN n8) (i47.drewN n8) (i57.drewN n8)
    rw [show sameB sl sl = true by simp [sameB]] at hsame2
    have HS2 := hid hsame2
    clear hsame2
    go_wp2_with fail
    refine (HS2.out).mono ?_
    rintro e w9 ⟨⟨n9, rfl⟩, rfl⟩
    have p9 : Below w.heap.size w ((w7.drewN n8).drewN n9) := below_drewN (below_drewN p7 n8) n9
    have i49 := (i47.drewN n8).drewN n9
    obtain ⟨w9, hw9⟩ : ∃ w9, (w7.drewN n8).drewN n9 = w9 := ⟨_, rfl⟩
    rw [hw9] at p9 i49 ⊢
    clear hw9 i27 i37 i47 i57 HS1 HS2
    by_cases hde : de = 0
    · subst hde
      obtain ⟨hx0, hx1, hx2⟩ := HO.out rfl
      obtain ⟨n, rfl⟩ := Int.eq_ofNat_of_zero_le hx0
      rcases i49.at_ with e | ⟨bb, off, rfl, hcell⟩
      · rw [e] at hx1; simp at hx1; omega
      have c0 := hcell n (by omega)
      rw [show sl[n]?.getD 0 = (dl.length : Int) by simpa using hx2] at c0
      have hnl : (n : Int) < (sl.length : Int) := hx1
      clear hcell hx2 i49
      go_wp2_with fail
      refine (known_any _).mono ?_
      rintro e w10 ⟨q10, rfl⟩
      go_wp2
      go_ret
      exact ⟨p9.trans (q10.mono p9.size), rfl⟩
    · have hde' : (de != 0) = true := by simp [hde]
      clear hde
      go_wp2_with fail
      refine (known_any _).mono ?_
      rintro e w10 ⟨q10, rfl⟩
      go_wp2
      go_ret
      exact ⟨p9.trans (q10.mono p9.size), rfl⟩

end Go.Proofs.Ytijfcifoemndeaa
