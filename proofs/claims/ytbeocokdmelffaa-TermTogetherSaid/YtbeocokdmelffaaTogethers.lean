/- The law TermTogether: its walk. -/
import Derived.Test.YtbeocokdmelffaaLong
import Derived.Test.YtbeocokdmelffaaRTogether
import Derived.Test.YtbeocokdmelffaaKnown
import Derived.Deep.QuietTactic
import Derived.BigQuiet
set_option linter.unusedVariables false
namespace Go.Proofs.Ytbeocokdmelffaa
open Go.RowKit

set_option maxRecDepth 100000 in
set_option maxHeartbeats 4000000 in
theorem togethers_walk (L : Int) (ra : Option Addr) (rs : List Int) (rc : Nat) (ca : Option Addr) (cs : List Int) (cc : Nat) (m f k n g e x y : Int) (w : World)
  (h1 : rs.length ≤ 9223372036854775807) (h2 : cs.length ≤ 9223372036854775807) (hT : rs.length ≤ 140737488355328 → cs.length ≤ 140737488355328 → TermAt w L ra rs ca cs) :
  Calls Try.prog 14 #[.agg #[.int .i64 L, .slice ra rs.length rc, .slice ca cs.length cc], .agg #[.int .i64 m, .int .i64 f, .int .i64 k, .int .i64 n, .int .i64 g, .int .i64 e], .agg #[.int .i64 x, .int .i64 y]] w (BoolR w true) := by
  have hB := (((Below.refl w.heap.size w).alloc (Nat.le_refl _) (.cells #[.int .i64 L, .slice ra rs.length rc, .slice ca cs.length cc] 24)).alloc (by simp) (.cells #[.int .i64 m, .int .i64 f, .int .i64 k, .int .i64 n, .int .i64 g, .int .i64 e] 67)).alloc (by simp; omega) (.cells #[.int .i64 x, .int .i64 y] 55)
  cases hl : longB rs cs with
  | true =>
    go_enter Try.func14, Try.ntmps14
    go_wp2_with fail
    go_region
    ·
      go_wp2_with fail
      refine (long_any _ _ _ _ _ _ _ _ h1 h2).mono ?_
      rintro en w1 ⟨q1, rfl⟩
      have p1 := (((hB.alloc (by simp; omega) (.cells #[.int .i64 m, .int .i64 f, .int .i64 k] 26)).alloc (by simp; omega) (.cells #[.int .i64 n, .int .i64 g, .int .i64 e] 26)).drew).trans (q1.mono (by simp; omega))
      rw [hl]
      go_wp2_with fail
      refine (known_any _).mono ?_
      rintro en w2 ⟨q2, rfl⟩
      go_wp2
      go_ret
      exact ⟨p1.trans (q2.mono p1.size), rfl⟩
    ·
      go_wp2_with fail
      refine (long_any _ _ _ _ _ _ _ _ h1 h2).mono ?_
      rintro en w1 ⟨q1, rfl⟩
      have p1 := (((hB.alloc (by simp; omega) (.cells #[.int .i64 n, .int .i64 g, .int .i64 e] 26)).alloc (by simp; omega) (.cells #[.int .i64 m, .int .i64 f, .int .i64 k] 26)).drew).trans (q1.mono (by simp; omega))
      rw [hl]
      go_wp2_with fail
      refine (known_any _).mono ?_
      rintro en w2 ⟨q2, rfl⟩
      go_wp2
      go_ret
      exact ⟨p1.trans (q2.mono p1.size), rfl⟩
  | false =>
    have hlen := longB_false hl
    have hT' := hT (by omega) (by omega)
    clear hT
    go_enter Try.func14, Try.ntmps14
    go_wp2_with fail
    go_region
    ·
      go_wp2_with fail
      refine (long_any _ _ _ _ _ _ _ _ h1 h2).mono ?_
      rintro en w1 ⟨q1, rfl⟩
      have p1 := (((hB.alloc (by simp; omega) (.cells #[.int .i64 m, .int .i64 f, .int .i64 k] 26)).alloc (by simp; omega) (.cells #[.int .i64 n, .int .i64 g, .int .i64 e] 26)).drew).trans (q1.mono (by simp; omega))
      obtain ⟨d1, d2⟩ := bcell q1
      have hs1 := q1.size
      simp only [World.size_alloc, World.size_drew] at d1 d2 hs1
      have a0 : w1.cell? ⟨w.heap.size, 0, none⟩ = some (.int .i64 L) := by rw [d1 _ _ (by omega)]; go_simp
      have a1 : w1.cell? ⟨w.heap.size, 1, none⟩ = some (.slice ra rs.length rc) := by rw [d1 _ _ (by omega)]; go_simp
      have a2 : w1.cell? ⟨w.heap.size, 2, none⟩ = some (.slice ca cs.length cc) := by rw [d1 _ _ (by omega)]; go_simp
      have x0 : w1.cell? ⟨w.heap.size + 1 + 1, 0, none⟩ = some (.int .i64 x) := by rw [d1 _ _ (by omega)]; go_simp
      have x1 : w1.cell? ⟨w.heap.size + 1 + 1, 1, none⟩ = some (.int .i64 y) := by rw [d1 _ _ (by omega)]; go_simp
      have b0 : w1.cell? ⟨w.heap.size + 1 + 1 + 1, 0, none⟩ = some (.int .i64 m) := by rw [d1 _ _ (by omega)]; go_simp
      have b1 : w1.cell? ⟨w.heap.size + 1 + 1 + 1, 1, none⟩ = some (.int .i64 f) := by rw [d1 _ _ (by omega)]; go_simp
      have b2 : w1.cell? ⟨w.heap.size + 1 + 1 + 1, 2, none⟩ = some (.int .i64 k) := by rw [d1 _ _ (by omega)]; go_simp
      have c0 : w1.cell? ⟨w.heap.size + 1 + 1 + 1 + 1, 0, none⟩ = some (.int .i64 n) := by rw [d1 _ _ (by omega)]; go_simp
      have c1 : w1.cell? ⟨w.heap.size + 1 + 1 + 1 + 1, 1, none⟩ = some (.int .i64 g) := by rw [d1 _ _ (by omega)]; go_simp
      have c2 : w1.cell? ⟨w.heap.size + 1 + 1 + 1 + 1, 2, none⟩ = some (.int .i64 e) := by rw [d1 _ _ (by omega)]; go_simp
      clear d1 d2
      rw [hl]
      go_wp2_with fail
      refine (together_any _ _ _ _ _ _ _ _ _ _ _ _ _ _ _ _ (hT'.below p1)).mono ?_
      rintro en w2 ⟨q2, rfl⟩
      have p2 := p1.trans (q2.mono p1.size)
      have hs2 := q2.size
      rw [← q2.cell (by simp; omega)] at a0 a1 a2 b0 b1 b2 c0 c1 c2 x0 x1
      go_wp2_with fail
      refine (rtogether_any _ _ _ _ _ _ _ _ _ _ _ _ _ _ _ _ (hT'.below p2)).mono ?_
      rintro en w3 ⟨q3, rfl⟩
      have p3 := p2.trans (q3.mono p2.size)
      go_wp2_with fail
      refine (known_any _).mono ?_
      rintro en w4 ⟨q4, rfl⟩
      go_wp2
      go_ret
      exact ⟨p3.trans (q4.mono p3.size), rfl⟩
    ·
      go_wp2_with fail
      refine (long_any _ _ _ _ _ _ _ _ h1 h2).mono ?_
      rintro en w1 ⟨q1, rfl⟩
      have p1 := (((hB.alloc (by simp; omega) (.cells #[.int .i64 n, .int .i64 g, .int .i64 e] 26)).alloc (by simp; omega) (.cells #[.int .i64 m, .int .i64 f, .int .i64 k] 26)).drew).trans (q1.mono (by simp; omega))
      obtain ⟨d1, d2⟩ := bcell q1
      have hs1 := q1.size
      simp only [World.size_alloc, World.size_drew] at d1 d2 hs1
      have a0 : w1.cell? ⟨w.heap.size, 0, none⟩ = some (.int .i64 L) := by rw [d1 _ _ (by omega)]; go_simp
      have a1 : w1.cell? ⟨w.heap.size, 1, none⟩ = some (.slice ra rs.length rc) := by rw [d1 _ _ (by omega)]; go_simp
      have a2 : w1.cell? ⟨w.heap.size, 2, none⟩ = some (.slice ca cs.length cc) := by rw [d1 _ _ (by omega)]; go_simp
      have x0 : w1.cell? ⟨w.heap.size + 1 + 1, 0, none⟩ = some (.int .i64 x) := by rw [d1 _ _ (by omega)]; go_simp
      have x1 : w1.cell? ⟨w.heap.size + 1 + 1, 1, none⟩ = some (.int .i64 y) := by rw [d1 _ _ (by omega)]; go_simp
      have b0 : w1.cell? ⟨w.heap.size + 1 + 1 + 1 + 1, 0, none⟩ = some (.int .i64 m) := by rw [d1 _ _ (by omega)]; go_simp
      have b1 : w1.cell? ⟨w.heap.size + 1 + 1 + 1 + 1, 1, none⟩ = some (.int .i64 f) := by rw [d1 _ _ (by omega)]; go_simp
      have b2 : w1.cell? ⟨w.heap.size + 1 + 1 + 1 + 1, 2, none⟩ = some (.int .i64 k) := by rw [d1 _ _ (by omega)]; go_simp
      have c0 : w1.cell? ⟨w.heap.size + 1 + 1 + 1, 0, none⟩ = some (.int .i64 n) := by rw [d1 _ _ (by omega)]; go_simp
      have c1 : w1.cell? ⟨w.heap.size + 1 + 1 + 1, 1, none⟩ = some (.int .i64 g) := by rw [d1 _ _ (by omega)]; go_simp
      have c2 : w1.cell? ⟨w.heap.size + 1 + 1 + 1, 2, none⟩ = some (.int .i64 e) := by rw [d1 _ _ (by omega)]; go_simp
      clear d1 d2
      rw [hl]
      go_wp2_with fail
      refine (together_any _ _ _ _ _ _ _ _ _ _ _ _ _ _ _ _ (hT'.below p1)).mono ?_
      rintro en w2 ⟨q2, rfl⟩
      have p2 := p1.trans (q2.mono p1.size)
      have hs2 := q2.size
      rw [← q2.cell (by simp; omega)] at a0 a1 a2 b0 b1 b2 c0 c1 c2 x0 x1
      go_wp2_with fail
      refine (rtogether_any _ _ _ _ _ _ _ _ _ _ _ _ _ _ _ _ (hT'.below p2)).mono ?_
      rintro en w3 ⟨q3, rfl⟩
      have p3 := p2.trans (q3.mono p2.size)
      go_wp2_with fail
      refine (known_any _).mono ?_
      rintro en w4 ⟨q4, rfl⟩
      go_wp2
      go_ret
      exact ⟨p3.trans (q4.mono p3.size), rfl⟩

end Go.Proofs.Ytbeocokdmelffaa
