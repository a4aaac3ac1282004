/- What is known last of a day, and its meal. -/
import Derived.Test.YtkepjoociidkcaaOrH
set_option linter.unusedVariables false
namespace Go.Proofs.Ytkepjoociidkcaa
open Go.RowKit

set_option maxHeartbeats 1000000 in
theorem isOn_any (k : Kn) (d : Int) (w : World) : Calls Try.prog 66 #[.agg #[.int .i64 k.1.a, .int .i64 k.1.c, .int .i64 k.1.f, .int .i64 k.1.t, .int .i64 k.1.m, .int .i64 k.2], .int .i64 d] w (BoolR w (onB k.1 d)) := by
  have hB := hid ((Below.refl w.heap.size w).alloc (Nat.le_refl _) (.cells #[.int .i64 k.1.a, .int .i64 k.1.c, .int .i64 k.1.f, .int .i64 k.1.t, .int .i64 k.1.m, .int .i64 k.2] 81))
  have HF := hid (show onB k.1 d = (decide (k.1.f ≤ d) && decide (d < k.1.t)) from rfl)
  by_cases h1 : k.1.f ≤ d
  · by_cases h2 : d < k.1.t
    · rw [decide_eq_true h1, decide_eq_true h2] at HF
      go_enter Try.func66, Try.ntmps66
      go_wp2
      go_ret
      exact ⟨hB.out, ret_bool (by rw [HF.out]; simp)⟩
    · rw [decide_eq_true h1, decide_eq_false h2] at HF
      have h2' : k.1.t ≤ d := by omega
      clear h2
      go_enter Try.func66, Try.ntmps66
      go_wp2
      go_ret
      exact ⟨hB.out, ret_bool (by rw [HF.out]; simp <;> omega)⟩
  · rw [decide_eq_false h1] at HF
    have h1' : d < k.1.f := by omega
    clear h1
    go_enter Try.func66, Try.ntmps66
    go_wp2
    go_ret
    exact ⟨hB.out, ret_bool (by rw [HF.out]; simp <;> omega)⟩

theorem set6_cells (w : World) (b : Nat) (u0 u1 u2 u3 u4 u5 v0 v1 v2 v3 v4 v5 : Value) (h0 : w.cell? ⟨b, 0, none⟩ = some v0) (h1 : w.cell? ⟨b, 1, none⟩ = some v1) (h2 : w.cell? ⟨b, 2, none⟩ = some v2) (h3 : w.cell? ⟨b, 3, none⟩ = some v3) (h4 : w.cell? ⟨b, 4, none⟩ = some v4) (h5 : w.cell? ⟨b, 5, none⟩ = some v5) :
    ((((((w.setCell ⟨b, 0, none⟩ u0).setCell ⟨b, 1, none⟩ u1).setCell ⟨b, 2, none⟩ u2).setCell ⟨b, 3, none⟩ u3).setCell ⟨b, 4, none⟩ u4).setCell ⟨b, 5, none⟩ u5).cell? ⟨b, 0, none⟩ = some u0 ∧
    ((((((w.setCell ⟨b, 0, none⟩ u0).setCell ⟨b, 1, none⟩ u1).setCell ⟨b, 2, none⟩ u2).setCell ⟨b, 3, none⟩ u3).setCell ⟨b, 4, none⟩ u4).setCell ⟨b, 5, none⟩ u5).cell? ⟨b, 1, none⟩ = some u1 ∧
    ((((((w.setCell ⟨b, 0, none⟩ u0).setCell ⟨b, 1, none⟩ u1).setCell ⟨b, 2, none⟩ u2).setCell ⟨b, 3, none⟩ u3).setCell ⟨b, 4, none⟩ u4).setCell ⟨b, 5, none⟩ u5).cell? ⟨b, 2, none⟩ = some u2 ∧
    ((((((w.setCell ⟨b, 0, none⟩ u0).setCell ⟨b, 1, none⟩ u1).setCell ⟨b, 2, none⟩ u2).setCell ⟨b, 3, none⟩ u3).setCell ⟨b, 4, none⟩ u4).setCell ⟨b, 5, none⟩ u5).cell? ⟨b, 3, none⟩ = some u3 ∧
    ((((((w.setCell ⟨b, 0, none⟩ u0).setCell ⟨b, 1, none⟩ u1).setCell ⟨b, 2, none⟩ u2).setCell ⟨b, 3, none⟩ u3).setCell ⟨b, 4, none⟩ u4).setCell ⟨b, 5, none⟩ u5).cell? ⟨b, 4, none⟩ = some u4 ∧
    ((((((w.setCell ⟨b, 0, none⟩ u0).setCell ⟨b, 1, none⟩ u1).setCell ⟨b, 2, none⟩ u2).setCell ⟨b, 3, none⟩ u3).setCell ⟨b, 4, none⟩ u4).setCell ⟨b, 5, none⟩ u5).cell? ⟨b, 5, none⟩ = some u5 := by
  refine ⟨by go_simp, by go_simp, by go_simp, by go_simp, by go_simp, by go_simp⟩

/-- What is known last, as a value. -/
def lastV : Option Kn → Value
  | none => .tuple #[.agg #[.int .i64 0, .int .i64 0, .int .i64 0, .int .i64 0, .int .i64 0, .int .i64 0], .bool false]
  | some k => .tuple #[.agg #[.int .i64 k.1.a, .int .i64 k.1.c, .int .i64 k.1.f, .int .i64 k.1.t, .int .i64 k.1.m, .int .i64 k.2], .bool true]
def LastR (w : World) (o : Option Kn) (en : Ending) (w' : World) : Prop := Below w.heap.size w w' ∧ en = .returned (lastV o)

set_option maxRecDepth 100000 in
set_option maxHeartbeats 2000000 in
theorem last_any (a : Option Addr) (r : List Kn) (cap : Nat) (d : Int) (w : World) (hr : KnsAt w a r) : Calls Try.prog 59 #[.slice a r.length cap, .int .i64 d] w (LastR w (lastK r d)) := by
  have hlen := hr.len
  have HR := hid hr
  clear hr
  go_enter Try.func59, Try.ntmps59
  go_wp2
  obtain ⟨W0, hW0⟩ : ∃ W0, w.alloc (.cells #[.int .i64 0, .int .i64 0, .int .i64 0, .int .i64 0, .int .i64 0, .int .i64 0] 81) = W0 := ⟨_, rfl⟩
  have hB0 := hid (show Below w.heap.size w W0 by rw [← hW0]; exact (Below.refl w.heap.size w).alloc (Nat.le_refl _) _)
  have y0 : W0.cell? ⟨w.heap.size, 0, none⟩ = some (.int .i64 0) := by rw [← hW0]; clear hW0; go_simp
  have y1 : W0.cell? ⟨w.heap.size, 1, none⟩ = some (.int .i64 0) := by rw [← hW0]; clear hW0; go_simp
  have y2 : W0.cell? ⟨w.heap.size, 2, none⟩ = some (.int .i64 0) := by rw [← hW0]; clear hW0; go_simp
  have y3 : W0.cell? ⟨w.heap.size, 3, none⟩ = some (.int .i64 0) := by rw [← hW0]; clear hW0; go_simp
  have y4 : W0.cell? ⟨w.heap.size, 4, none⟩ = some (.int .i64 0) := by rw [← hW0]; clear hW0; go_simp
  have y5 : W0.cell? ⟨w.heap.size, 5, none⟩ = some (.int .i64 0) := by rw [← hW0]; clear hW0; go_simp
  have z0 : W0.frozen? ⟨w.heap.size, 0, none⟩ = false := by rw [← hW0]; clear hW0; go_simp
  have z1 : W0.frozen? ⟨w.heap.size, 1, none⟩ = false := by rw [← hW0]; clear hW0; go_simp
  have z2 : W0.frozen? ⟨w.heap.size, 2, none⟩ = false := by rw [← hW0]; clear hW0; go_simp
  have z3 : W0.frozen? ⟨w.heap.size, 3, none⟩ = false := by rw [← hW0]; clear hW0; go_simp
  have z4 : W0.frozen? ⟨w.heap.size, 4, none⟩ = false := by rw [← hW0]; clear hW0; go_simp
  have z5 : W0.frozen? ⟨w.heap.size, 5, none⟩ = false := by rw [← hW0]; clear hW0; go_simp
  have hs0 : W0.heap.size = w.heap.size + 1 := by rw [← hW0]; simp
  rw [hW0]
  clear hW0
  have hs1 : w.heap.size < W0.heap.size := by omega
  have HS0 := hid hs0
  clear hs0
  go_loopw [6] (fun n wr => ∃ k : Nat, k ≤ r.length ∧ n = .int .i64 ((k : Int) - 1) ∧ Hid (lastK r d = lastTo r d k) ∧ Below W0.heap.size W0 wr) (fun n _ => (intOf n + 1).toNat)
  case atStart => exact ⟨r.length, Nat.le_refl _, rfl, rfl, Below.refl _ _⟩
  case round =>
    obtain ⟨k, hk, hn, HL, hB⟩ := hrel
    obtain ⟨hb1, hb2⟩ := bcell hB
    have hsz := hB.size
    have hBw := hid (hB0.out.trans (hB.mono (by omega)))
    have x0 := (hb1 w.heap.size 0 hs1).trans y0
    have x1 := (hb1 w.heap.size 1 hs1).trans y1
    have x2 := (hb1 w.heap.size 2 hs1).trans y2
    have x3 := (hb1 w.heap.size 3 hs1).trans y3
    have x4 := (hb1 w.heap.size 4 hs1).trans y4
    have x5 := (hb1 w.heap.size 5 hs1).trans y5
    have f0 := (hb2 w.heap.size 0 hs1).trans z0
    have f1 := (hb2 w.heap.size 1 hs1).trans z1
    have f2 := (hb2 w.heap.size 2 hs1).trans z2
    have f3 := (hb2 w.heap.size 3 hs1).trans z3
    have f4 := (hb2 w.heap.size 4 hs1).trans z4
    have f5 := (hb2 w.heap.size 5 hs1).trans z5
    cases k with
    | zero =>
      have hn2 : u6 = .int .i64 (-1) := by rw [hn]; rfl
      clear hn
      subst hn2
      have HE := hid (show lastK r d = none by rw [HL.out]; rfl)
      clear y0 y1 y2 y3 y4 y5 z0 z1 z2 z3 z4 z5 hb1 hb2
      go_wp2
      obtain ⟨s0, s1, s2, s3, s4, s5⟩ := set6_cells wr w.heap.size ((.int .i64 0)) ((.int .i64 0)) ((.int .i64 0)) ((.int .i64 0)) ((.int .i64 0)) ((.int .i64 0)) _ _ _ _ _ _ x0 x1 x2 x3 x4 x5
      have hfin := hid (show Below w.heap.size w ((((((wr.setCell ⟨w.heap.size, 0, none⟩ (.int .i64 0)).setCell ⟨w.heap.size, 1, none⟩ (.int .i64 0)).setCell ⟨w.heap.size, 2, none⟩ (.int .i64 0)).setCell ⟨w.heap.size, 3, none⟩ (.int .i64 0)).setCell ⟨w.heap.size, 4, none⟩ (.int .i64 0)).setCell ⟨w.heap.size, 5, none⟩ (.int .i64 0)) from ((((((hBw.out.setCell (by simp) _).setCell (by simp) _).setCell (by simp) _).setCell (by simp) _).setCell (by simp) _).setCell (by simp) _))
      generalize ((((((wr.setCell ⟨w.heap.size, 0, none⟩ (.int .i64 0)).setCell ⟨w.heap.size, 1, none⟩ (.int .i64 0)).setCell ⟨w.heap.size, 2, none⟩ (.int .i64 0)).setCell ⟨w.heap.size, 3, none⟩ (.int .i64 0)).setCell ⟨w.heap.size, 4, none⟩ (.int .i64 0)).setCell ⟨w.heap.size, 5, none⟩ (.int .i64 0)) = W6 at *
      clear x0 x1 x2 x3 x4 x5 f0 f1 f2 f3 f4 f5
      refine bodyPost_ret (v := lastV none) (by simp [results, Try.results59, go_sem, lastV, s0, s1, s2, s3, s4, s5]) rfl ?_
      exact ⟨hfin.out, by rw [HE.out]⟩
    | succ j =>
      have hn2 : u6 = .int .i64 (j : Int) := by rw [hn]; congr 1; omega
      clear hn
      subst hn2
      rcases (HR.out.below hBw.out).at_ with e | ⟨b, off, rfl, hc⟩
      · rw [e] at hk; simp at hk
      obtain ⟨⟨c0, c1, c2, c3, c4⟩, c5⟩ := hc j (by omega)
      have hbl : b < wr.heap.size := cell_lt c0
      have HT := hid (show lastTo r d (j + 1) = if onB (kAt r j).1 d = true then some (kAt r j) else lastTo r d j from rfl)
      have j0 : (0 : Int) ≤ (j : Int) := by omega
      have j1 : (j : Int) < (r.length : Int) := by omega
      clear hc y0 y1 y2 y3 y4 y5 z0 z1 z2 z3 z4 z5 hb1 hb2
      generalize kAt r j = x at *
      cases ho : onB x.1 d with
      | true =>
        rw [ho] at HT
        go_wp2_with fail
        refine (isOn_any x d _).mono ?_
        rintro e w1 ⟨q1, rfl⟩
        have hBw1 := hid (hBw.out.trans (q1.mono (by omega)))
        rw [← q1.cell (by simp; omega)] at x0 x1 x2 x3 x4 x5 c0 c1 c2 c3 c4 c5
        rw [← q1.frozen (by simp; omega)] at f0 f1 f2 f3 f4 f5
        go_wp2
        obtain ⟨s0, s1, s2, s3, s4, s5⟩ := set6_cells w1 w.heap.size ((.int .i64 x.1.a)) ((.int .i64 x.1.c)) ((.int .i64 x.1.f)) ((.int .i64 x.1.t)) ((.int .i64 x.1.m)) ((.int .i64 x.2)) _ _ _ _ _ _ x0 x1 x2 x3 x4 x5
        have hfin := hid (show Below w.heap.size w ((((((w1.setCell ⟨w.heap.size, 0, none⟩ (.int .i64 x.1.a)).setCell ⟨w.heap.size, 1, none⟩ (.int .i64 x.1.c)).setCell ⟨w.heap.size, 2, none⟩ (.int .i64 x.1.f)).setCell ⟨w.heap.size, 3, none⟩ (.int .i64 x.1.t)).setCell ⟨w.heap.size, 4, none⟩ (.int .i64 x.1.m)).setCell ⟨w.heap.size, 5, none⟩ (.int .i64 x.2)) from ((((((hBw1.out.setCell (by simp) _).setCell (by simp) _).setCell (by simp) _).setCell (by simp) _).setCell (by simp) _).setCell (by simp) _))
        generalize ((((((w1.setCell ⟨w.heap.size, 0, none⟩ (.int .i64 x.1.a)).setCell ⟨w.heap.size, 1, none⟩ (.int .i64 x.1.c)).setCell ⟨w.heap.size, 2, none⟩ (.int .i64 x.1.f)).setCell ⟨w.heap.size, 3, none⟩ (.int .i64 x.1.t)).setCell ⟨w.heap.size, 4, none⟩ (.int .i64 x.1.m)).setCell ⟨w.heap.size, 5, none⟩ (.int .i64 x.2)) = W6 at *
        clear x0 x1 x2 x3 x4 x5 f0 f1 f2 f3 f4 f5
        refine bodyPost_ret (v := lastV (some x)) (by simp [results, Try.results59, go_sem, lastV, s0, s1, s2, s3, s4, s5]) rfl ?_
        exact ⟨hfin.out, by rw [HL.out, HT.out]; rfl⟩
      | false =>
        rw [ho] at HT
        go_wp2_with fail
        refine (isOn_any x d _).mono ?_
        rintro e w1 ⟨q1, rfl⟩
        have hB1 := hB.trans (q1.mono (by omega))
        go_wp2
        go_roundw
        case rel => exact ⟨j, by omega, rfl, by unfold Hid; rw [HL.out, HT.out]; simp, hB1⟩
        case measure => simp [intOf] <;> omega

set_option maxRecDepth 100000 in
set_option maxHeartbeats 1000000 in
theorem meal_any (a : Option Addr) (r : List Kn) (cap : Nat) (d : Int) (w : World) (hr : KnsAt w a r) : Calls Try.prog 56 #[.slice a r.length cap, .int .i64 d] w (IntR w (mealR r d)) := by
  have HC := hid (last_any a r cap d w hr)
  clear hr
  have HM := hid (show mealR r d = match lastK r d with | none => 0 | some k => k.1.m from rfl)
  cases hk : lastK r d with
  | none =>
    rw [hk] at HC HM
    clear hk
    go_enter Try.func56, Try.ntmps56
    go_wp2_with fail
    refine HC.out.mono ?_
    rintro e w1 ⟨q1, rfl⟩
    unfold lastV
    go_wp2
    go_ret
    exact ⟨q1.alloc q1.size _, ret_int (by rw [HM.out])⟩
  | some k =>
    rw [hk] at HC HM
    clear hk
    go_enter Try.func56, Try.ntmps56
    go_wp2_with fail
    refine HC.out.mono ?_
    rintro e w1 ⟨q1, rfl⟩
    unfold lastV
    go_wp2
    go_ret
    exact ⟨q1.alloc q1.size _, ret_int (by rw [HM.out])⟩
end Go.Proofs.Ytkepjoociidkcaa
