/- The law TermCounts: its walk. -/
import Derived.Test.YtbeocokdmelffaaLong
import Derived.Test.YtbeocokdmelffaaCounts
import Derived.Test.YtbeocokdmelffaaKnown
set_option linter.unusedVariables false
namespace Go.Proofs.Ytbeocokdmelffaa
open Go.RowKit

set_option maxRecDepth 100000 in
set_option maxHeartbeats 4000000 in
theorem counts_walk (L : Int) (ra : Option Addr) (rs : List Int) (rc : Nat) (ca : Option Addr) (cs : List Int) (cc : Nat) (f t b : Int) (w : World)
  (h1 : rs.length ≤ 9223372036854775807) (h2 : cs.length ≤ 9223372036854775807) (hT : rs.length ≤ 140737488355328 → cs.length ≤ 140737488355328 → TermAt w L ra rs ca cs) :
  Calls Try.prog 4 #[.agg #[.int .i64 L, .slice ra rs.length rc, .slice ca cs.length cc], .agg #[.int .i64 f, .int .i64 t], .int .i64 b] w (BoolR w true) := by
  have hB := ((Below.refl w.heap.size w).alloc (Nat.le_refl _) (.cells #[.int .i64 L, .slice ra rs.length rc, .slice ca cs.length cc] 24)).alloc (by simp) (.cells #[.int .i64 f, .int .i64 t] 38)
  cases hl : longB rs cs with
  | true =>
    go_enter Try.func4, Try.ntmps4
    go_wp2_with fail
    refine (long_any _ _ _ _ _ _ _ _ h1 h2).mono ?_
    rintro e w1 ⟨q1, rfl⟩
    have p1 := hB.trans (q1.mono (by simp; omega))
    rw [hl]
    go_wp2_with fail
    refine (known_any _).mono ?_
    rintro e w2 ⟨q2, rfl⟩
    go_wp2
    go_ret
    exact ⟨p1.trans (q2.mono p1.size), rfl⟩
  | false =>
    have hlen := longB_false hl
    have hT' := hT (by omega) (by omega)
    clear hT
    have bd1 := countL_bd L rs cs f b
    have bd2 := countL_bd L rs cs b t
    have HA := hid (@countL_add L rs cs f b t)
    go_enter Try.func4, Try.ntmps4
    go_wp2_with fail
    refine (long_any _ _ _ _ _ _ _ _ h1 h2).mono ?_
    rintro e w1 ⟨q1, rfl⟩
    have p1 := hB.trans (q1.mono (by simp; omega))
    obtain ⟨d1, d2⟩ := bcell q1
    have hs1 := q1.size
    simp only [World.size_alloc] at d1 d2 hs1
    have a0 : w1.cell? ⟨w.heap.size, 0, none⟩ = some (.int .i64 L) := by rw [d1 _ _ (by omega)]; go_simp
    have a1 : w1.cell? ⟨w.heap.size, 1, none⟩ = some (.slice ra rs.length rc) := by rw [d1 _ _ (by omega)]; go_simp
    have a2 : w1.cell? ⟨w.heap.size, 2, none⟩ = some (.slice ca cs.length cc) := by rw [d1 _ _ (by omega)]; go_simp
    have b0 : w1.cell? ⟨w.heap.size + 1, 0, none⟩ = some (.int .i64 f) := by rw [d1 _ _ (by omega)]; go_simp
    have b1 : w1.cell? ⟨w.heap.size + 1, 1, none⟩ = some (.int .i64 t) := by rw [d1 _ _ (by omega)]; go_simp
    clear d1 d2
    rw [hl]
    go_wp2_with fail
    refine (count_any _ _ _ _ _ _ _ _ _ _ (hT'.below p1)).mono ?_
    rintro e w2 ⟨q2, rfl⟩
    have p2 := p1.trans (q2.mono p1.size)
    have hs2 := q2.size
    rw [← q2.cell (by simp; omega)] at a0 a1 a2 b0 b1
    go_wp2_with fail
    refine (rcount_any _ _ _ _ _ _ _ _ _ _ (hT'.below p2)).mono ?_
    rintro e w3 ⟨q3, rfl⟩
    have p3 := p2.trans (q3.mono p2.size)
    have hs3 := q3.size
    rw [← q3.cell (by simp; omega)] at a0 a1 a2 b0 b1
    go_wp2_with fail
    refine (count_any _ _ _ _ _ _ _ _ _ _ (hT'.below p3)).mono ?_
    rintro e w4 ⟨q4, rfl⟩
    have p4 := p3.trans (q4.mono p3.size)
    have hs4 := q4.size
    rw [← q4.cell (by simp; omega)] at a0 a1 a2 b0 b1
    go_wp2_with fail
    refine (count_any _ _ _ _ _ _ _ _ _ _ (hT'.below p4)).mono ?_
    rintro e w5 ⟨q5, rfl⟩
    have p5 := p4.trans (q5.mono p4.size)
    cases hg : ((countL L rs cs f b).2 != 0) with
    | true =>
      go_wp2_with fail
      refine (known_any _).mono ?_
      rintro e w6 ⟨q6, rfl⟩
      go_wp2
      go_ret
      exact ⟨p5.trans (q6.mono p5.size), rfl⟩
    | false =>
      cases hh : ((countL L rs cs b t).2 != 0) with
      | true =>
        go_wp2_with fail
        refine (known_any _).mono ?_
        rintro e w6 ⟨q6, rfl⟩
        go_wp2
        go_ret
        exact ⟨p5.trans (q6.mono p5.size), rfl⟩
      | false =>
        obtain ⟨z1, z2⟩ := HA.out (by simpa using hg) (by simpa using hh)
        have z1' : ((countL L rs cs f t).2 == 0) = true := by simp [z1]
        have z2' : ((countL L rs cs f b).1 + (countL L rs cs b t).1 == (countL L rs cs f t).1) = true := by simp [z2]
        clear z1 z2
        go_wp2_with fail
        refine (known_any _).mono ?_
        rintro e w6 ⟨q6, rfl⟩
        go_wp2
        go_ret
        exact ⟨p5.trans (q6.mono p5.size), rfl⟩

end Go.Proofs.Ytbeocokdmelffaa
