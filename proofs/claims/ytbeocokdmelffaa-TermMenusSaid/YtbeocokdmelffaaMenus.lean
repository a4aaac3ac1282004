/- The law TermMenus: its walk. -/
import Derived.Test.YtbeocokdmelffaaLong
import Derived.Test.YtbeocokdmelffaaRefMenu
import Derived.Test.YtbeocokdmelffaaKnown
set_option linter.unusedVariables false
namespace Go.Proofs.Ytbeocokdmelffaa
open Go.RowKit

set_option maxRecDepth 100000 in
set_option maxHeartbeats 2000000 in
theorem menus_walk (L : Int) (ra : Option Addr) (rs : List Int) (rc : Nat) (ca : Option Addr) (cs : List Int) (cc : Nat) (m f k d : Int) (w : World)
  (h1 : rs.length ≤ 9223372036854775807) (h2 : cs.length ≤ 9223372036854775807) (hT : rs.length ≤ 140737488355328 → cs.length ≤ 140737488355328 → TermAt w L ra rs ca cs) :
  Calls Try.prog 6 #[.agg #[.int .i64 L, .slice ra rs.length rc, .slice ca cs.length cc], .agg #[.int .i64 m, .int .i64 f, .int .i64 k], .int .i64 d] w (BoolR w true) := by
  have hB := ((Below.refl w.heap.size w).alloc (Nat.le_refl _) (.cells #[.int .i64 L, .slice ra rs.length rc, .slice ca cs.length cc] 24)).alloc (by simp) (.cells #[.int .i64 m, .int .i64 f, .int .i64 k] 26)
  cases hl : longB rs cs with
  | true =>
    go_enter Try.func6, Try.ntmps6
    go_wp2_with fail
    refine (long_any _ _ _ _ _ _ _ _ h1 h2).mono ?_
    rintro e w1 ⟨q1, rfl⟩
    have p1 := hB.trans (q1.mono (by simp; omega))
    rw [hl]
    go_wp2_with fail
    refine (known_any _).mono ?_
    rintro e w2 ⟨q2, rfl⟩
    go_wp2
    go_ret
    exact ⟨p1.trans (q2.mono p1.size), rfl⟩
  | false =>
    have hlen := longB_false hl
    have hT' := hT (by omega) (by omega)
    clear hT
    go_enter Try.func6, Try.ntmps6
    go_wp2_with fail
    refine (long_any _ _ _ _ _ _ _ _ h1 h2).mono ?_
    rintro e w1 ⟨q1, rfl⟩
    have p1 := hB.trans (q1.mono (by simp; omega))
    obtain ⟨d1, d2⟩ := bcell q1
    have hs1 := q1.size
    simp only [World.size_alloc] at d1 d2 hs1
    have a0 : w1.cell? ⟨w.heap.size, 0, none⟩ = some (.int .i64 L) := by rw [d1 _ _ (by omega)]; go_simp
    have a1 : w1.cell? ⟨w.heap.size, 1, none⟩ = some (.slice ra rs.length rc) := by rw [d1 _ _ (by omega)]; go_simp
    have a2 : w1.cell? ⟨w.heap.size, 2, none⟩ = some (.slice ca cs.length cc) := by rw [d1 _ _ (by omega)]; go_simp
    have b0 : w1.cell? ⟨w.heap.size + 1, 0, none⟩ = some (.int .i64 m) := by rw [d1 _ _ (by omega)]; go_simp
    have b1 : w1.cell? ⟨w.heap.size + 1, 1, none⟩ = some (.int .i64 f) := by rw [d1 _ _ (by omega)]; go_simp
    have b2 : w1.cell? ⟨w.heap.size + 1, 2, none⟩ = some (.int .i64 k) := by rw [d1 _ _ (by omega)]; go_simp
    clear d1 d2
    rw [hl]
    go_wp2_with fail
    refine (menu_any _ _ _ _ _ _ _ _ _ _ _ _ (hT'.below p1)).mono ?_
    rintro e w2 ⟨q2, rfl⟩
    have p2 := p1.trans (q2.mono p1.size)
    have hs2 := q2.size
    rw [← q2.cell (by simp; omega)] at a0 a1 a2 b0 b1 b2
    rw [menuL_eq]
    go_wp2_with fail
    refine (rmenu_any _ _ _ _ _ _ _ _ _ _ _ _ (hT'.below p2)).mono ?_
    rintro e w3 ⟨q3, rfl⟩
    have p3 := p2.trans (q3.mono p2.size)
    go_wp2_with fail
    refine (known_any _).mono ?_
    rintro e w4 ⟨q4, rfl⟩
    go_wp2
    go_ret
    exact ⟨p3.trans (q4.mono p3.size), rfl⟩

end Go.Proofs.Ytbeocokdmelffaa
