/- The law TermTurns: its walk. -/
import Derived.Test.YtbeocokdmelffaaLong
import Derived.Test.YtbeocokdmelffaaTurnR
import Derived.Test.YtbeocokdmelffaaKnown
set_option linter.unusedVariables false
namespace Go.Proofs.Ytbeocokdmelffaa
open Go.RowKit

set_option maxRecDepth 100000 in
set_option maxHeartbeats 2000000 in
theorem turns_walk (L : Int) (ra : Option Addr) (rs : List Int) (rc : Nat) (ca : Option Addr) (cs : List Int) (cc : Nat) (m f k b d : Int) (w : World)
  (h1 : rs.length ≤ 9223372036854775807) (h2 : cs.length ≤ 9223372036854775807) (hT : rs.length ≤ 140737488355328 → cs.length ≤ 140737488355328 → TermAt w L ra rs ca cs)
  (hb1 : -9223372036854775808 ≤ b) (hb2 : b ≤ 9223372036854775807) :
  Calls Try.prog 11 #[.agg #[.int .i64 L, .slice ra rs.length rc, .slice ca cs.length cc], .agg #[.int .i64 m, .int .i64 f, .int .i64 k], .agg #[.int .i64 b, .int .i64 d]] w (BoolR w true) := by
  cases hl : longB rs cs with
  | true =>
    go_enter Try.func11, Try.ntmps11
    go_wp2_with fail
    go_quiet (fail)
    go_wp2_with fail
    refine (long_any _ _ _ _ _ _ _ _ h1 h2).mono ?_
    rintro e w1 ⟨q1, rfl⟩
    have p1 : Below w.heap.size w w1 := Below.trans (by repeat (first | exact Below.refl _ _ | refine below_drewN ?_ _ | refine Below.alloc ?_ (by simp <;> omega) _)) (q1.mono (by simp; omega))
    rw [hl]
    go_wp2_with fail
    refine (known_any _).mono ?_
    rintro e w2 ⟨q2, rfl⟩
    go_wp2
    go_ret
    exact ⟨p1.trans (q2.mono p1.size), rfl⟩
  | false =>
    have hlen := longB_false hl
    have hT' := hT (by omega) (by omega)
    clear hT
    go_enter Try.func11, Try.ntmps11
    go_wp2_with fail
    go_quiet (fail)
    go_wp2_with fail
    refine (long_any _ _ _ _ _ _ _ _ h1 h2).mono ?_
    rintro e w1 ⟨q1, rfl⟩
    have p1 : Below w.heap.size w w1 := Below.trans (by repeat (first | exact Below.refl _ _ | refine below_drewN ?_ _ | refine Below.alloc ?_ (by simp <;> omega) _)) (q1.mono (by simp; omega))
    obtain ⟨d1, d2⟩ := bcell q1
    have hs1 := q1.size
    simp at d1 d2 hs1
    have a0 : w1.cell? ⟨w.heap.size, 0, none⟩ = some (.int .i64 L) := by rw [d1 _ _ (by omega)]; go_simp
    have a1 : w1.cell? ⟨w.heap.size, 1, none⟩ = some (.slice ra rs.length rc) := by rw [d1 _ _ (by omega)]; go_simp
    have a2 : w1.cell? ⟨w.heap.size, 2, none⟩ = some (.slice ca cs.length cc) := by rw [d1 _ _ (by omega)]; go_simp
    have b0 : w1.cell? ⟨w.heap.size + 1, 0, none⟩ = some (.int .i64 m) := by rw [d1 _ _ (by omega)]; go_simp
    have b1 : w1.cell? ⟨w.heap.size + 1, 1, none⟩ = some (.int .i64 f) := by rw [d1 _ _ (by omega)]; go_simp
    have b2 : w1.cell? ⟨w.heap.size + 1, 2, none⟩ = some (.int .i64 k) := by rw [d1 _ _ (by omega)]; go_simp
    clear d1 d2
    rw [hl]
    go_wp2_with fail
    refine (turn_any _ _ _ _ _ hb1 hb2).mono ?_
    rintro e w2 ⟨q2, rfl⟩
    have p2 := p1.trans (q2.mono p1.size)
    have hs2 := q2.size
    rw [← q2.cell (by simp; omega)] at a0 a1 a2 b0 b1 b2
    have n1 : w.heap.size < w2.heap.size := by omega
    have n2 : w.heap.size + 1 < w2.heap.size := by omega
    have s2 := p2.size
    go_wp2_with fail
    refine (rturn_any _ _ _ _ _ hb1 hb2).mono ?_
    rintro e w3 ⟨q3, rfl⟩
    have e0 : w3.cell? ⟨w2.heap.size, 0, none⟩ = some (.int .i64 (turnL m f k b).1.1) := by rw [q3.cell (by simp)]; go_simp
    have e1 : w3.cell? ⟨w2.heap.size, 1, none⟩ = some (.int .i64 (turnL m f k b).1.2.1) := by rw [q3.cell (by simp)]; go_simp
    have e2 : w3.cell? ⟨w2.heap.size, 2, none⟩ = some (.int .i64 (turnL m f k b).1.2.2) := by rw [q3.cell (by simp)]; go_simp
    have k23 : Below w2.heap.size w2 w3 := ((Below.refl _ w2).alloc (Nat.le_refl _) _).trans (q3.mono (by simp))
    have p3 := p2.trans (k23.mono p2.size)
    have hs3 := q3.size
    simp only [World.size_alloc] at hs3
    rw [← k23.cell (by simp; omega)] at a0 a1 a2 b0 b1 b2
    have n3 : w2.heap.size < w3.heap.size := by omega
    have n4 : w.heap.size < w3.heap.size := by omega
    have n5 : w.heap.size + 1 < w3.heap.size := by omega
    go_wp2_with fail
    refine (menu_any _ _ _ _ _ _ _ _ _ _ _ _ ((hT'.below p3).alloc _)).mono ?_
    rintro e w4 ⟨q4, rfl⟩
    have k34 : Below w3.heap.size w3 w4 := ((Below.refl _ w3).alloc (Nat.le_refl _) _).trans (q4.mono (by simp))
    have p4 := p3.trans (k34.mono p3.size)
    have hs4 := q4.size
    simp only [World.size_alloc] at hs4
    rw [← k34.cell (by simp; omega)] at a0 a1 a2 b0 b1 b2 e0 e1 e2
    have n6 : w2.heap.size < w4.heap.size := by omega
    have n7 : w.heap.size < w4.heap.size := by omega
    have n8 : w.heap.size + 1 < w4.heap.size := by omega
    go_wp2_with fail
    refine (menu_any _ _ _ _ _ _ _ _ _ _ _ _ (hT'.below p4)).mono ?_
    rintro e w5 ⟨q5, rfl⟩
    have p5 := p4.trans (q5.mono p4.size)
    have hs5 := q5.size
    rw [← q5.cell (by simp; omega)] at b0
    cases ht : ((turnL m f k b).2 != 0) with
    | true =>
      go_wp2_with fail
      refine (known_any _).mono ?_
      rintro e w6 ⟨q6, rfl⟩
      go_wp2
      go_ret
      exact ⟨p5.trans (q6.mono p5.size), rfl⟩
    | false =>
      cases hg : ((menuL L rs cs m f k d).2 != 0) with
      | true =>
        go_wp2_with fail
        refine (known_any _).mono ?_
        rintro e w6 ⟨q6, rfl⟩
        go_wp2
        go_ret
        exact ⟨p5.trans (q6.mono p5.size), rfl⟩
      | false =>
        have hc : badC m f k = false := by
          cases hc : badC m f k with
          | false => rfl
          | true => simp [turnL, hc] at ht
        have hok := validC_ok hc
        have hm1 := hok.1
        have hm2 := hok.2.1
        have hm0 : (m == 0) = false := by simp; omega
        have hbd := menu_bd L rs cs m f k d hc
        have htm := tmod_bd b m hm1
        have hres := menu_turn L rs cs m f k d b hc (by simpa using hg)
        have hT2 : (turnL m f k b).1 = (m, (f + b) % m, k) := by simp [turnL, hc]
        rw [hT2]
        dsimp only
        rw [hres]
        dsimp only
        have hx : (((menuL L rs cs m f k d).1 + b) % m == ((menuL L rs cs m f k d).1 + Int.tmod b m) % m) = true := by
          rw [beq_iff_eq]
          have h3 := Int.mul_tdiv_add_tmod b m
          have h4 : (menuL L rs cs m f k d).1 + b = (menuL L rs cs m f k d).1 + Int.tmod b m + m * Int.tdiv b m := by omega
          rw [h4, Int.add_mul_emod_self_left]
        clear hres hT2 hok
        go_wp2_with fail
        refine (known_any _).mono ?_
        rintro e w6 ⟨q6, rfl⟩
        go_wp2
        go_ret
        exact ⟨p5.trans (q6.mono p5.size), rfl⟩

end Go.Proofs.Ytbeocokdmelffaa
