/- Turn, as the document's own answer has it. -/
import Derived.Test.YtbeocokdmelffaaRef
import Derived.Test.YtbeocokdmelffaaTurn
set_option linter.unusedVariables false
namespace Go.Proofs.Ytbeocokdmelffaa
open Go.RowKit

set_option maxRecDepth 100000 in
set_option maxHeartbeats 6000000 in
theorem rturn_any (m f k b : Int) (w : World) (hb1 : -9223372036854775808 ≤ b) (hb2 : b ≤ 9223372036854775807) :
  Calls Try.prog 45 #[.agg #[.int .i64 m, .int .i64 f, .int .i64 k], .int .i64 b] w (TurnR w (turnL m f k b)) := by
  have hB := (Below.refl w.heap.size w).alloc (Nat.le_refl _) (.cells #[.int .i64 m, .int .i64 f, .int .i64 k] 26)
  cases hc : badC m f k with
  | true =>
    have HR := hid (show turnL m f k b = ((0, 0, 0), 1) by rw [turnL, hc]; rfl)
    have HV := hid (show validC m f k = 1 by rw [validC, hc]; rfl)
    go_enter Try.func45, Try.ntmps45
    go_wp2_with fail
    refine (rvalidateCycle_any _ _ _ _).mono ?_
    rintro e w1 ⟨hb, rfl⟩
    rw [HV.out]
    have p1 := (hB.alloc hB.size (.cells #[.int .i64 0, .int .i64 0, .int .i64 0] 26)).trans (hb.mono (by simp; omega))
    obtain ⟨d1, d2⟩ := bcell hb
    have hsz := hb.size
    simp only [World.size_alloc] at d1 d2 hsz
    have c0 : w1.cell? ⟨w.heap.size + 1, 0, none⟩ = some (.int .i64 0) := by rw [d1 _ _ (by omega)]; go_simp
    have c1 : w1.cell? ⟨w.heap.size + 1, 1, none⟩ = some (.int .i64 0) := by rw [d1 _ _ (by omega)]; go_simp
    have c2 : w1.cell? ⟨w.heap.size + 1, 2, none⟩ = some (.int .i64 0) := by rw [d1 _ _ (by omega)]; go_simp
    go_wp2
    obtain ⟨t0, t1, t2⟩ := set3_cells w1 (w.heap.size + 1) (.int .i64 0) (.int .i64 0) (.int .i64 0) _ _ _ c0 c1 c2
    refine bodyPost_ret (v := .tuple #[.agg #[.int .i64 0, .int .i64 0, .int .i64 0], .int .i64 1]) (by simp [results, Try.results45, go_sem, t0, t1, t2]) rfl ⟨?_, by rw [HR.out]⟩
    repeat (first | exact p1 | refine Below.setCell ?_ (by simp <;> omega) _)
  | false =>
    have hok := validC_ok hc
    have h1 := hok.1
    have h2 := hok.2.1
    have h3 := hok.2.2.1
    have h4 := hok.2.2.2.1
    have hm1 := emod_bd b m h1
    have hm2 := emod_bd (f + b) m h1
    have hm0 : (m == 0) = false := by simp; omega
    have HR := hid (show turnL m f k b = ((m, (f + b) % m, k), 0) by rw [turnL, hc]; rfl)
    have HV := hid (show validC m f k = 0 by rw [validC, hc]; rfl)
    clear hok
    go_enter Try.func45, Try.ntmps45
    go_wp2_with fail
    refine (rvalidateCycle_any _ _ _ _).mono ?_
    rintro e w1 ⟨hb, rfl⟩
    rw [HV.out]
    have p1 := (hB.alloc hB.size (.cells #[.int .i64 0, .int .i64 0, .int .i64 0] 26)).trans (hb.mono (by simp; omega))
    obtain ⟨d1, d2⟩ := bcell hb
    have hsz := hb.size
    simp only [World.size_alloc] at d1 d2 hsz
    have c0 : w1.cell? ⟨w.heap.size + 1, 0, none⟩ = some (.int .i64 0) := by rw [d1 _ _ (by omega)]; go_simp
    have c1 : w1.cell? ⟨w.heap.size + 1, 1, none⟩ = some (.int .i64 0) := by rw [d1 _ _ (by omega)]; go_simp
    have c2 : w1.cell? ⟨w.heap.size + 1, 2, none⟩ = some (.int .i64 0) := by rw [d1 _ _ (by omega)]; go_simp
    have g0 : w1.cell? ⟨w.heap.size, 0, none⟩ = some (.int .i64 m) := by rw [d1 _ _ (by omega)]; go_simp
    have g1 : w1.cell? ⟨w.heap.size, 1, none⟩ = some (.int .i64 f) := by rw [d1 _ _ (by omega)]; go_simp
    have g2 : w1.cell? ⟨w.heap.size, 2, none⟩ = some (.int .i64 k) := by rw [d1 _ _ (by omega)]; go_simp
    have e1 : w1.frozen? ⟨w.heap.size, 1, none⟩ = false := by rw [d2 _ _ (by omega)]; go_simp
    have e2 : ∀ o, w1.frozen? ⟨w.heap.size + 1, o, none⟩ = false := fun o => by rw [d2 _ _ (by omega)]; go_simp
    have e3 := e2 0
    have e4 := e2 1
    have e5 := e2 2
    clear d1 d2 e2
    have hw : IntKind.i64.wrap (f + b % m) = f + b % m := IntWalk.i64_in _ (by omega)
    have hw0 : 0 ≤ f + b % m := by omega
    have hw3 : Int.tmod (f + b % m) m = (f + b) % m := by rw [Int.tmod_eq_emod_of_nonneg hw0, Int.add_emod_emod]
    go_wp2_with fail
    go_region_with (go_at_call 72; refine (rmodulo_any _ _ _ (by omega) (by omega) (by omega) (by omega)).mono ?_; rintro e w' ⟨rfl, rfl⟩)
    all_goals
      go_wp2
      obtain ⟨t0, t1, t2⟩ := set3_cells (w1.setCell ⟨w.heap.size, 1, none⟩ (.int .i64 ((f + b) % m))) (w.heap.size + 1) (.int .i64 m) (.int .i64 ((f + b) % m)) (.int .i64 k) (.int .i64 0) (.int .i64 0) (.int .i64 0) (by go_simp) (by go_simp) (by go_simp)
      refine bodyPost_ret (v := .tuple #[.agg #[.int .i64 m, .int .i64 ((f + b) % m), .int .i64 k], .int .i64 0]) (by simp [results, Try.results45, go_sem, t0, t1, t2]) rfl ⟨?_, by rw [HR.out]⟩
      refine Below.drew ?_
      repeat (first | exact p1 | refine Below.setCell ?_ (by simp <;> omega) _)

end Go.Proofs.Ytbeocokdmelffaa
