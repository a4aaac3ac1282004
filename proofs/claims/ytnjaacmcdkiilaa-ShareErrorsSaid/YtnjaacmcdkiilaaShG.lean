/- The greatest and the smallest claim: slices.MaxFunc and MinFunc at claims, by size and by rank. (Written by wip/tools/gen_shmax.py.) -/
import Derived.Test.YtnjaacmcdkiilaaShD
import Derived.Test.YtnjaacmcdkiilaaShF
set_option linter.unusedVariables false
namespace Go.Proofs.Ytnjaacmcdkiilaa
open Go.RowKit

def ClaimR (w : World) (c : ClaimL) (en : Ending) (w' : World) : Prop := Below w.heap.size w w' ∧ en = .returned (.agg #[.int .i64 c.1, .int .i64 c.2.1, .int .i64 c.2.2])
def MaxS (w0 : World) (b o : Nat) (c d : ClaimL) (w : World) : Prop := w.cell? ⟨w0.heap.size + 1, 0, none⟩ = some (.int .i64 c.1) ∧ w.cell? ⟨w0.heap.size + 1, 1, none⟩ = some (.int .i64 c.2.1) ∧ w.cell? ⟨w0.heap.size + 1, 2, none⟩ = some (.int .i64 c.2.2) ∧ w.cell? ⟨b, o, none⟩ = some (.int .i64 d.1) ∧ w.cell? ⟨b, o + 1, none⟩ = some (.int .i64 d.2.1) ∧ w.cell? ⟨b, o + 2, none⟩ = some (.int .i64 d.2.2) ∧ Below w0.heap.size w0 w
theorem MaxS.keep {w0 : World} {b o : Nat} {c d : ClaimL} {w w2 : World} (h : MaxS w0 b o c d w) (hb : Below w.heap.size w w2) : MaxS w0 b o c d w2 := by
  obtain ⟨a0, a1, a2, b0, b1, b2, p⟩ := h
  refine ⟨?_, ?_, ?_, ?_, ?_, ?_, p.trans (hb.mono p.size)⟩
  · rw [hb.cell (cell_lt a0)]; exact a0
  · rw [hb.cell (cell_lt a1)]; exact a1
  · rw [hb.cell (cell_lt a2)]; exact a2
  · rw [hb.cell (cell_lt b0)]; exact b0
  · rw [hb.cell (cell_lt b1)]; exact b1
  · rw [hb.cell (cell_lt b2)]; exact b2
theorem MaxS.drew {w0 : World} {b o : Nat} {c d : ClaimL} {w : World} (h : MaxS w0 b o c d w) : MaxS w0 b o c d w.drew := h.keep (Below.refl _ _).drew
/-- A variable of three cells that may be written. -/
def Var3 (w : World) (g : Nat) (c : ClaimL) : Prop := w.cell? ⟨g, 0, none⟩ = some (.int .i64 c.1) ∧ w.cell? ⟨g, 1, none⟩ = some (.int .i64 c.2.1) ∧ w.cell? ⟨g, 2, none⟩ = some (.int .i64 c.2.2) ∧ w.frozen? ⟨g, 0, none⟩ = false ∧ w.frozen? ⟨g, 1, none⟩ = false ∧ w.frozen? ⟨g, 2, none⟩ = false
theorem Var3.keep {w w2 : World} {g : Nat} {c : ClaimL} (h : Var3 w g c) (hb : Below w.heap.size w w2) : Var3 w2 g c := by
  obtain ⟨a0, a1, a2, f0, f1, f2⟩ := h
  refine ⟨?_, ?_, ?_, ?_, ?_, ?_⟩
  · rw [hb.cell (cell_lt a0)]; exact a0
  · rw [hb.cell (cell_lt a1)]; exact a1
  · rw [hb.cell (cell_lt a2)]; exact a2
  · rw [hb.frozen (cell_lt a0)]; exact f0
  · rw [hb.frozen (cell_lt a1)]; exact f1
  · rw [hb.frozen (cell_lt a2)]; exact f2
theorem Var3.set {w : World} {g : Nat} {c d : ClaimL} (h : Var3 w g c) : Var3 (((w.setCell ⟨g, 0, none⟩ (.int .i64 d.1)).setCell ⟨g, 1, none⟩ (.int .i64 d.2.1)).setCell ⟨g, 2, none⟩ (.int .i64 d.2.2)) g d := by
  obtain ⟨a0, a1, a2, f0, f1, f2⟩ := h
  obtain ⟨t0, t1, t2⟩ := set3_cells w g (.int .i64 d.1) (.int .i64 d.2.1) (.int .i64 d.2.2) _ _ _ a0 a1 a2
  exact ⟨t0, t1, t2, by simpa using f0, by simpa using f1, by simpa using f2⟩
theorem Var3.far {w : World} {g : Nat} {c : ClaimL} (h : Var3 w g c) (p : Addr) (hp : p.block ≠ g) (v : Value) : Var3 (w.setCell p v) g c := by
  obtain ⟨a0, a1, a2, f0, f1, f2⟩ := h
  have hp' : ∀ o, p ≠ ⟨g, o, none⟩ := fun o e => hp (by rw [e])
  exact ⟨by rw [World.cell?_setCell_other _ _ _ _ (hp' _)]; exact a0, by rw [World.cell?_setCell_other _ _ _ _ (hp' _)]; exact a1, by rw [World.cell?_setCell_other _ _ _ _ (hp' _)]; exact a2, by simpa using f0, by simpa using f1, by simpa using f2⟩

set_option maxRecDepth 100000 in
set_option maxHeartbeats 4000000 in
theorem max_size (a : Option Addr) (l : List ClaimL) (cap : Nat) (w : World) (h : ClaimsAt w a l) (hg : ∀ c ∈ l, GoodC c) (hne : 1 ≤ l.length) :
  Calls Try.prog 63 #[.slice a l.length cap, .func (.func 65) #[] #[]] w (ClaimR w (maxTo sizeL l (l.length - 1))) := by
  have hlen := h.len
  rcases h.at_ with e | ⟨b, off, rfl, hc⟩
  · rw [e] at hne; simp at hne
  have HC := hid hc
  obtain ⟨c0, c1, c2⟩ := hc 0 (by omega)
  simp only [Nat.zero_mul, Nat.add_zero] at c0 c1 c2
  have hbw := cell_lt c0
  dsimp only at hbw
  have HG := hid (fun k hk => hg _ (clAt_mem l k hk))
  have HGm := hid (fun k hk => hg _ (maxTo_mem sizeL l k hk))
  have HT0 := hid (show maxTo sizeL l (1 - 1) = clAt l 0 from rfl)
  clear hc h hg
  have hl0 : (0 : Int) < (l.length : Int) := by omega
  have hl1 : ¬ (l.length : Int) < 1 := by omega
  go_enter Try.func63, Try.ntmps63
  go_wp2
  go_loopw [6] (fun i wr => ∃ j : Nat, 1 ≤ j ∧ j ≤ l.length ∧ i = .int .i64 (j : Int) ∧ Hid (Var3 wr w.heap.size (0, 0, 0)) ∧ Hid (Var3 wr (w.heap.size + 1) (maxTo sizeL l (j - 1))) ∧ Below w.heap.size w wr) (fun i _ => l.length - (intOf i).toNat)
  case atStart =>
    refine ⟨1, by omega, by omega, rfl, ?_, ?_, ?_⟩
    · exact ⟨by go_simp, by go_simp, by go_simp, by go_simp, by go_simp, by go_simp⟩
    · rw [HT0.out]
      exact ⟨by go_simp, by go_simp, by go_simp, by go_simp, by go_simp, by go_simp⟩
    · repeat (first | exact Below.refl _ _ | refine Below.alloc ?_ (by simp <;> omega) _ | refine Below.setCell ?_ (by simp <;> omega) _)
  case round =>
    clear c0 c1 c2
    obtain ⟨j, hj1, hj, rfl, HZ0, HM, hB⟩ := hrel
    have hsr := hB.size
    by_cases hlt : j < l.length
    · obtain ⟨d0, d1, d2⟩ := HC.out j hlt
      have hd1 : b < w.heap.size := cell_lt d0
      have HT := hid (show maxTo sizeL l (j + 1 - 1) = if 0 < sizeL (clAt l j) (maxTo sizeL l (j - 1)) then clAt l j else maxTo sizeL l (j - 1) by obtain ⟨k, rfl⟩ : ∃ k, j = k + 1 := ⟨j - 1, by omega⟩; rfl)
      have gx := HG.out j hlt
      have gm := HGm.out (j - 1) (by omega)
      have c0 : wr.cell? ⟨b, off + j * 3, none⟩ = some (.int .i64 (clAt l j).1) := by rw [hB.cell hd1]; exact d0
      have c1 : wr.cell? ⟨b, off + j * 3 + 1, none⟩ = some (.int .i64 (clAt l j).2.1) := by rw [hB.cell hd1]; exact d1
      have c2 : wr.cell? ⟨b, off + j * 3 + 2, none⟩ = some (.int .i64 (clAt l j).2.2) := by rw [hB.cell hd1]; exact d2
      clear d0 d1 d2
      generalize clAt l j = x at *
      generalize maxTo sizeL l (j - 1) = m at *
      obtain ⟨s, v, t⟩ := x
      obtain ⟨sm, vm, tm⟩ := m
      have HZ := hid (show ∀ w : World, Calls Try.prog 65 #[.agg #[.int .i64 s, .int .i64 v, .int .i64 t], .agg #[.int .i64 sm, .int .i64 vm, .int .i64 tm]] w (IntR w (sizeL (s, v, t) (sm, vm, tm))) from fun w => size_any s v t sm vm tm w gx gm)
      have S0 := hid (show MaxS w b (off + j * 3) (sm, vm, tm) (s, v, t) wr from ⟨HM.out.1, HM.out.2.1, HM.out.2.2.1, c0, c1, c2, hB⟩)
      clear c0 c1 c2
      have hk0 : (0 : Int) ≤ (j : Int) := Int.natCast_nonneg _
      have hk1 : (j : Int) < (l.length : Int) := by omega
      generalize sizeL (s, v, t) (sm, vm, tm) = z at *
      go_wp2_with fail
      by_cases hz : 0 < z
      all_goals
        go_region_held3 (fun w' => w'.cell? ⟨w.heap.size + 1, 0, none⟩ = some (.int .i64 sm) ∧ w'.cell? ⟨w.heap.size + 1, 1, none⟩ = some (.int .i64 vm) ∧ w'.cell? ⟨w.heap.size + 1, 2, none⟩ = some (.int .i64 tm) ∧ w'.cell? ⟨b, off + j * 3, none⟩ = some (.int .i64 s) ∧ w'.cell? ⟨b, off + j * 3 + 1, none⟩ = some (.int .i64 v) ∧ w'.cell? ⟨b, off + j * 3 + 2, none⟩ = some (.int .i64 t) ∧ Below w.heap.size w w')
          (first | assumption | exact S0.out.drew | exact S0.out | exact MaxS.keep (c := (sm, vm, tm)) (d := (s, v, t)) (by assumption) (by assumption))
          (first | (go_at_call 65; refine (HZ.out _).mono ?_; rintro en w4 ⟨hb4, rfl⟩))
      · have HX := hid hz
        have hb : Below wr.heap.size wr w4 := by first | exact hb4 | exact (Below.refl _ wr).drew.trans hb4
        have HZ4 := hid (HZ0.out.keep hb)
        have HM4 := hid (HM.out.keep hb)
        have hw1 : w.heap.size + 1 < wr.heap.size := cell_lt HM.out.1
        have hHeld : MaxS w b (off + j * 3) (sm, vm, tm) (s, v, t) w4 := by assumption
        obtain ⟨_, _, _, e0, e1, e2, p4⟩ := hHeld
        obtain ⟨m0, m1, m2, f0, f1, f2⟩ := HM4.out
        have hws := hb.size
        clear hz
        have hz' : 0 < z := by have := HX.out; omega
        go_wp2
        go_roundw
        case rel => exact ⟨j + 1, by omega, by omega, by go_num, ((HZ4.out.far _ (by simp) _).far _ (by simp) _).far _ (by simp) _, by unfold Hid; rw [HT.out, if_pos (by have := HX.out; omega)]; exact Var3.set (d := (s, v, t)) HM4.out, ((p4.setCell (by simp) _).setCell (by simp) _).setCell (by simp) _⟩
        case measure => simp [intOf]; omega
      · have HX := hid hz
        have hb : Below wr.heap.size wr w4 := by first | exact hb4 | exact (Below.refl _ wr).drew.trans hb4
        have HZ4 := hid (HZ0.out.keep hb)
        have HM4 := hid (HM.out.keep hb)
        have hz' : z ≤ 0 := by have := HX.out; omega
        have hHeld : MaxS w b (off + j * 3) (sm, vm, tm) (s, v, t) w4 := by assumption
        obtain ⟨_, _, _, e0, e1, e2, p4⟩ := hHeld
        clear hz
        go_wp2
        go_roundw
        case rel => exact ⟨j + 1, by omega, by omega, by go_num, HZ4.out, by unfold Hid; rw [HT.out, if_neg (by have := HX.out; omega)]; exact HM4.out, p4⟩
        case measure => simp [intOf]; omega
    · obtain rfl : j = l.length := by omega
      obtain ⟨m0, m1, m2, f0, f1, f2⟩ := HM.out
      obtain ⟨z0, z1, z2, y0, y1, y2⟩ := HZ0.out
      generalize maxTo sizeL l (l.length - 1) = m at *
      obtain ⟨t0, t1, t2⟩ := set3_cells wr w.heap.size (.int .i64 m.1) (.int .i64 m.2.1) (.int .i64 m.2.2) _ _ _ z0 z1 z2
      have HB := hid (((hB.setCell (p := ⟨w.heap.size, 0, none⟩) (Nat.le_refl _) (.int .i64 m.1)).setCell (p := ⟨w.heap.size, 1, none⟩) (Nat.le_refl _) (.int .i64 m.2.1)).setCell (p := ⟨w.heap.size, 2, none⟩) (Nat.le_refl _) (.int .i64 m.2.2))
      go_wp2
      exact bodyPost_ret (v := .agg #[.int .i64 m.1, .int .i64 m.2.1, .int .i64 m.2.2]) (by simp [results, Try.results63, go_sem, t0, t1, t2]) rfl ⟨HB.out, rfl⟩

set_option maxRecDepth 100000 in
set_option maxHeartbeats 4000000 in
theorem max_rank (a : Option Addr) (l : List ClaimL) (cap : Nat) (w : World) (h : ClaimsAt w a l) (hg : ∀ c ∈ l, GoodC c) (hne : 1 ≤ l.length) :
  Calls Try.prog 63 #[.slice a l.length cap, .func (.func 56) #[] #[]] w (ClaimR w (maxTo rankL l (l.length - 1))) := by
  have hlen := h.len
  rcases h.at_ with e | ⟨b, off, rfl, hc⟩
  · rw [e] at hne; simp at hne
  have HC := hid hc
  obtain ⟨c0, c1, c2⟩ := hc 0 (by omega)
  simp only [Nat.zero_mul, Nat.add_zero] at c0 c1 c2
  have hbw := cell_lt c0
  dsimp only at hbw
  have HG := hid (fun k hk => hg _ (clAt_mem l k hk))
  have HGm := hid (fun k hk => hg _ (maxTo_mem rankL l k hk))
  have HT0 := hid (show maxTo rankL l (1 - 1) = clAt l 0 from rfl)
  clear hc h hg
  have hl0 : (0 : Int) < (l.length : Int) := by omega
  have hl1 : ¬ (l.length : Int) < 1 := by omega
  go_enter Try.func63, Try.ntmps63
  go_wp2
  go_loopw [6] (fun i wr => ∃ j : Nat, 1 ≤ j ∧ j ≤ l.length ∧ i = .int .i64 (j : Int) ∧ Hid (Var3 wr w.heap.size (0, 0, 0)) ∧ Hid (Var3 wr (w.heap.size + 1) (maxTo rankL l (j - 1))) ∧ Below w.heap.size w wr) (fun i _ => l.length - (intOf i).toNat)
  case atStart =>
    refine ⟨1, by omega, by omega, rfl, ?_, ?_, ?_⟩
    · exact ⟨by go_simp, by go_simp, by go_simp, by go_simp, by go_simp, by go_simp⟩
    · rw [HT0.out]
      exact ⟨by go_simp, by go_simp, by go_simp, by go_simp, by go_simp, by go_simp⟩
    · repeat (first | exact Below.refl _ _ | refine Below.alloc ?_ (by simp <;> omega) _ | refine Below.setCell ?_ (by simp <;> omega) _)
  case round =>
    clear c0 c1 c2
    obtain ⟨j, hj1, hj, rfl, HZ0, HM, hB⟩ := hrel
    have hsr := hB.size
    by_cases hlt : j < l.length
    · obtain ⟨d0, d1, d2⟩ := HC.out j hlt
      have hd1 : b < w.heap.size := cell_lt d0
      have HT := hid (show maxTo rankL l (j + 1 - 1) = if 0 < rankL (clAt l j) (maxTo rankL l (j - 1)) then clAt l j else maxTo rankL l (j - 1) by obtain ⟨k, rfl⟩ : ∃ k, j = k + 1 := ⟨j - 1, by omega⟩; rfl)
      have gx := HG.out j hlt
      have gm := HGm.out (j - 1) (by omega)
      have c0 : wr.cell? ⟨b, off + j * 3, none⟩ = some (.int .i64 (clAt l j).1) := by rw [hB.cell hd1]; exact d0
      have c1 : wr.cell? ⟨b, off + j * 3 + 1, none⟩ = some (.int .i64 (clAt l j).2.1) := by rw [hB.cell hd1]; exact d1
      have c2 : wr.cell? ⟨b, off + j * 3 + 2, none⟩ = some (.int .i64 (clAt l j).2.2) := by rw [hB.cell hd1]; exact d2
      clear d0 d1 d2
      generalize clAt l j = x at *
      generalize maxTo rankL l (j - 1) = m at *
      obtain ⟨s, v, t⟩ := x
      obtain ⟨sm, vm, tm⟩ := m
      have HZ := hid (show ∀ w : World, Calls Try.prog 56 #[.agg #[.int .i64 s, .int .i64 v, .int .i64 t], .agg #[.int .i64 sm, .int .i64 vm, .int .i64 tm]] w (IntR w (rankL (s, v, t) (sm, vm, tm))) from fun w => rank_any s v t sm vm tm w gx gm)
      have S0 := hid (show MaxS w b (off + j * 3) (sm, vm, tm) (s, v, t) wr from ⟨HM.out.1, HM.out.2.1, HM.out.2.2.1, c0, c1, c2, hB⟩)
      clear c0 c1 c2
      have hk0 : (0 : Int) ≤ (j : Int) := Int.natCast_nonneg _
      have hk1 : (j : Int) < (l.length : Int) := by omega
      generalize rankL (s, v, t) (sm, vm, tm) = z at *
      go_wp2_with fail
      by_cases hz : 0 < z
      all_goals
        go_region_held3 (fun w' => w'.cell? ⟨w.heap.size + 1, 0, none⟩ = some (.int .i64 sm) ∧ w'.cell? ⟨w.heap.size + 1, 1, none⟩ = some (.int .i64 vm) ∧ w'.cell? ⟨w.heap.size + 1, 2, none⟩ = some (.int .i64 tm) ∧ w'.cell? ⟨b, off + j * 3, none⟩ = some (.int .i64 s) ∧ w'.cell? ⟨b, off + j * 3 + 1, none⟩ = some (.int .i64 v) ∧ w'.cell? ⟨b, off + j * 3 + 2, none⟩ = some (.int .i64 t) ∧ Below w.heap.size w w')
          (first | assumption | exact S0.out.drew | exact S0.out | exact MaxS.keep (c := (sm, vm, tm)) (d := (s, v, t)) (by assumption) (by assumption))
          (first | (go_at_call 56; refine (HZ.out _).mono ?_; rintro en w4 ⟨hb4, rfl⟩))
      · have HX := hid hz
        have hb : Below wr.heap.size wr w4 := by first | exact hb4 | exact (Below.refl _ wr).drew.trans hb4
        have HZ4 := hid (HZ0.out.keep hb)
        have HM4 := hid (HM.out.keep hb)
        have hw1 : w.heap.size + 1 < wr.heap.size := cell_lt HM.out.1
        have hHeld : MaxS w b (off + j * 3) (sm, vm, tm) (s, v, t) w4 := by assumption
        obtain ⟨_, _, _, e0, e1, e2, p4⟩ := hHeld
        obtain ⟨m0, m1, m2, f0, f1, f2⟩ := HM4.out
        have hws := hb.size
        clear hz
        have hz' : 0 < z := by have := HX.out; omega
        go_wp2
        go_roundw
        case rel => exact ⟨j + 1, by omega, by omega, by go_num, ((HZ4.out.far _ (by simp) _).far _ (by simp) _).far _ (by simp) _, by unfold Hid; rw [HT.out, if_pos (by have := HX.out; omega)]; exact Var3.set (d := (s, v, t)) HM4.out, ((p4.setCell (by simp) _).setCell (by simp) _).setCell (by simp) _⟩
        case measure => simp [intOf]; omega
      · have HX := hid hz
        have hb : Below wr.heap.size wr w4 := by first | exact hb4 | exact (Below.refl _ wr).drew.trans hb4
        have HZ4 := hid (HZ0.out.keep hb)
        have HM4 := hid (HM.out.keep hb)
        have hz' : z ≤ 0 := by have := HX.out; omega
        have hHeld : MaxS w b (off + j * 3) (sm, vm, tm) (s, v, t) w4 := by assumption
        obtain ⟨_, _, _, e0, e1, e2, p4⟩ := hHeld
        clear hz
        go_wp2
        go_roundw
        case rel => exact ⟨j + 1, by omega, by omega, by go_num, HZ4.out, by unfold Hid; rw [HT.out, if_neg (by have := HX.out; omega)]; exact HM4.out, p4⟩
        case measure => simp [intOf]; omega
    · obtain rfl : j = l.length := by omega
      obtain ⟨m0, m1, m2, f0, f1, f2⟩ := HM.out
      obtain ⟨z0, z1, z2, y0, y1, y2⟩ := HZ0.out
      generalize maxTo rankL l (l.length - 1) = m at *
      obtain ⟨t0, t1, t2⟩ := set3_cells wr w.heap.size (.int .i64 m.1) (.int .i64 m.2.1) (.int .i64 m.2.2) _ _ _ z0 z1 z2
      have HB := hid (((hB.setCell (p := ⟨w.heap.size, 0, none⟩) (Nat.le_refl _) (.int .i64 m.1)).setCell (p := ⟨w.heap.size, 1, none⟩) (Nat.le_refl _) (.int .i64 m.2.1)).setCell (p := ⟨w.heap.size, 2, none⟩) (Nat.le_refl _) (.int .i64 m.2.2))
      go_wp2
      exact bodyPost_ret (v := .agg #[.int .i64 m.1, .int .i64 m.2.1, .int .i64 m.2.2]) (by simp [results, Try.results63, go_sem, t0, t1, t2]) rfl ⟨HB.out, rfl⟩

set_option maxRecDepth 100000 in
set_option maxHeartbeats 4000000 in
theorem min_size (a : Option Addr) (l : List ClaimL) (cap : Nat) (w : World) (h : ClaimsAt w a l) (hg : ∀ c ∈ l, GoodC c) (hne : 1 ≤ l.length) :
  Calls Try.prog 55 #[.slice a l.length cap, .func (.func 65) #[] #[]] w (ClaimR w (minTo sizeL l (l.length - 1))) := by
  have hlen := h.len
  rcases h.at_ with e | ⟨b, off, rfl, hc⟩
  · rw [e] at hne; simp at hne
  have HC := hid hc
  obtain ⟨c0, c1, c2⟩ := hc 0 (by omega)
  simp only [Nat.zero_mul, Nat.add_zero] at c0 c1 c2
  have hbw := cell_lt c0
  dsimp only at hbw
  have HG := hid (fun k hk => hg _ (clAt_mem l k hk))
  have HGm := hid (fun k hk => hg _ (minTo_mem sizeL l k hk))
  have HT0 := hid (show minTo sizeL l (1 - 1) = clAt l 0 from rfl)
  clear hc h hg
  have hl0 : (0 : Int) < (l.length : Int) := by omega
  have hl1 : ¬ (l.length : Int) < 1 := by omega
  go_enter Try.func55, Try.ntmps55
  go_wp2
  go_loopw [6] (fun i wr => ∃ j : Nat, 1 ≤ j ∧ j ≤ l.length ∧ i = .int .i64 (j : Int) ∧ Hid (Var3 wr w.heap.size (0, 0, 0)) ∧ Hid (Var3 wr (w.heap.size + 1) (minTo sizeL l (j - 1))) ∧ Below w.heap.size w wr) (fun i _ => l.length - (intOf i).toNat)
  case atStart =>
    refine ⟨1, by omega, by omega, rfl, ?_, ?_, ?_⟩
    · exact ⟨by go_simp, by go_simp, by go_simp, by go_simp, by go_simp, by go_simp⟩
    · rw [HT0.out]
      exact ⟨by go_simp, by go_simp, by go_simp, by go_simp, by go_simp, by go_simp⟩
    · repeat (first | exact Below.refl _ _ | refine Below.alloc ?_ (by simp <;> omega) _ | refine Below.setCell ?_ (by simp <;> omega) _)
  case round =>
    clear c0 c1 c2
    obtain ⟨j, hj1, hj, rfl, HZ0, HM, hB⟩ := hrel
    have hsr := hB.size
    by_cases hlt : j < l.length
    · obtain ⟨d0, d1, d2⟩ := HC.out j hlt
      have hd1 : b < w.heap.size := cell_lt d0
      have HT := hid (show minTo sizeL l (j + 1 - 1) = if sizeL (clAt l j) (minTo sizeL l (j - 1)) < 0 then clAt l j else minTo sizeL l (j - 1) by obtain ⟨k, rfl⟩ : ∃ k, j = k + 1 := ⟨j - 1, by omega⟩; rfl)
      have gx := HG.out j hlt
      have gm := HGm.out (j - 1) (by omega)
      have c0 : wr.cell? ⟨b, off + j * 3, none⟩ = some (.int .i64 (clAt l j).1) := by rw [hB.cell hd1]; exact d0
      have c1 : wr.cell? ⟨b, off + j * 3 + 1, none⟩ = some (.int .i64 (clAt l j).2.1) := by rw [hB.cell hd1]; exact d1
      have c2 : wr.cell? ⟨b, off + j * 3 + 2, none⟩ = some (.int .i64 (clAt l j).2.2) := by rw [hB.cell hd1]; exact d2
      clear d0 d1 d2
      generalize clAt l j = x at *
      generalize minTo sizeL l (j - 1) = m at *
      obtain ⟨s, v, t⟩ := x
      obtain ⟨sm, vm, tm⟩ := m
      have HZ := hid (show ∀ w : World, Calls Try.prog 65 #[.agg #[.int .i64 s, .int .i64 v, .int .i64 t], .agg #[.int .i64 sm, .int .i64 vm, .int .i64 tm]] w (IntR w (sizeL (s, v, t) (sm, vm, tm))) from fun w => size_any s v t sm vm tm w gx gm)
      have S0 := hid (show MaxS w b (off + j * 3) (sm, vm, tm) (s, v, t) wr from ⟨HM.out.1, HM.out.2.1, HM.out.2.2.1, c0, c1, c2, hB⟩)
      clear c0 c1 c2
      have hk0 : (0 : Int) ≤ (j : Int) := Int.natCast_nonneg _
      have hk1 : (j : Int) < (l.length : Int) := by omega
      generalize sizeL (s, v, t) (sm, vm, tm) = z at *
      go_wp2_with fail
      by_cases hz : z < 0
      all_goals
        go_region_held3 (fun w' => w'.cell? ⟨w.heap.size + 1, 0, none⟩ = some (.int .i64 sm) ∧ w'.cell? ⟨w.heap.size + 1, 1, none⟩ = some (.int .i64 vm) ∧ w'.cell? ⟨w.heap.size + 1, 2, none⟩ = some (.int .i64 tm) ∧ w'.cell? ⟨b, off + j * 3, none⟩ = some (.int .i64 s) ∧ w'.cell? ⟨b, off + j * 3 + 1, none⟩ = some (.int .i64 v) ∧ w'.cell? ⟨b, off + j * 3 + 2, none⟩ = some (.int .i64 t) ∧ Below w.heap.size w w')
          (first | assumption | exact S0.out.drew | exact S0.out | exact MaxS.keep (c := (sm, vm, tm)) (d := (s, v, t)) (by assumption) (by assumption))
          (first | (go_at_call 65; refine (HZ.out _).mono ?_; rintro en w4 ⟨hb4, rfl⟩))
      · have HX := hid hz
        have hb : Below wr.heap.size wr w4 := by first | exact hb4 | exact (Below.refl _ wr).drew.trans hb4
        have HZ4 := hid (HZ0.out.keep hb)
        have HM4 := hid (HM.out.keep hb)
        have hw1 : w.heap.size + 1 < wr.heap.size := cell_lt HM.out.1
        have hHeld : MaxS w b (off + j * 3) (sm, vm, tm) (s, v, t) w4 := by assumption
        obtain ⟨_, _, _, e0, e1, e2, p4⟩ := hHeld
        obtain ⟨m0, m1, m2, f0, f1, f2⟩ := HM4.out
        have hws := hb.size
        clear hz
        have hz' : z < 0 := by have := HX.out; omega
        go_wp2
        go_roundw
        case rel => exact ⟨j + 1, by omega, by omega, by go_num, ((HZ4.out.far _ (by simp) _).far _ (by simp) _).far _ (by simp) _, by unfold Hid; rw [HT.out, if_pos (by have := HX.out; omega)]; exact Var3.set (d := (s, v, t)) HM4.out, ((p4.setCell (by simp) _).setCell (by simp) _).setCell (by simp) _⟩
        case measure => simp [intOf]; omega
      · have HX := hid hz
        have hb : Below wr.heap.size wr w4 := by first | exact hb4 | exact (Below.refl _ wr).drew.trans hb4
        have HZ4 := hid (HZ0.out.keep hb)
        have HM4 := hid (HM.out.keep hb)
        have hz' : 0 ≤ z := by have := HX.out; omega
        have hHeld : MaxS w b (off + j * 3) (sm, vm, tm) (s, v, t) w4 := by assumption
        obtain ⟨_, _, _, e0, e1, e2, p4⟩ := hHeld
        clear hz
        go_wp2
        go_roundw
        case rel => exact ⟨j + 1, by omega, by omega, by go_num, HZ4.out, by unfold Hid; rw [HT.out, if_neg (by have := HX.out; omega)]; exact HM4.out, p4⟩
        case measure => simp [intOf]; omega
    · obtain rfl : j = l.length := by omega
      obtain ⟨m0, m1, m2, f0, f1, f2⟩ := HM.out
      obtain ⟨z0, z1, z2, y0, y1, y2⟩ := HZ0.out
      generalize minTo sizeL l (l.length - 1) = m at *
      obtain ⟨t0, t1, t2⟩ := set3_cells wr w.heap.size (.int .i64 m.1) (.int .i64 m.2.1) (.int .i64 m.2.2) _ _ _ z0 z1 z2
      have HB := hid (((hB.setCell (p := ⟨w.heap.size, 0, none⟩) (Nat.le_refl _) (.int .i64 m.1)).setCell (p := ⟨w.heap.size, 1, none⟩) (Nat.le_refl _) (.int .i64 m.2.1)).setCell (p := ⟨w.heap.size, 2, none⟩) (Nat.le_refl _) (.int .i64 m.2.2))
      go_wp2
      exact bodyPost_ret (v := .agg #[.int .i64 m.1, .int .i64 m.2.1, .int .i64 m.2.2]) (by simp [results, Try.results55, go_sem, t0, t1, t2]) rfl ⟨HB.out, rfl⟩

set_option maxRecDepth 100000 in
set_option maxHeartbeats 4000000 in
theorem min_rank (a : Option Addr) (l : List ClaimL) (cap : Nat) (w : World) (h : ClaimsAt w a l) (hg : ∀ c ∈ l, GoodC c) (hne : 1 ≤ l.length) :
  Calls Try.prog 55 #[.slice a l.length cap, .func (.func 56) #[] #[]] w (ClaimR w (minTo rankL l (l.length - 1))) := by
  have hlen := h.len
  rcases h.at_ with e | ⟨b, off, rfl, hc⟩
  · rw [e] at hne; simp at hne
  have HC := hid hc
  obtain ⟨c0, c1, c2⟩ := hc 0 (by omega)
  simp only [Nat.zero_mul, Nat.add_zero] at c0 c1 c2
  have hbw := cell_lt c0
  dsimp only at hbw
  have HG := hid (fun k hk => hg _ (clAt_mem l k hk))
  have HGm := hid (fun k hk => hg _ (minTo_mem rankL l k hk))
  have HT0 := hid (show minTo rankL l (1 - 1) = clAt l 0 from rfl)
  clear hc h hg
  have hl0 : (0 : Int) < (l.length : Int) := by omega
  have hl1 : ¬ (l.length : Int) < 1 := by omega
  go_enter Try.func55, Try.ntmps55
  go_wp2
  go_loopw [6] (fun i wr => ∃ j : Nat, 1 ≤ j ∧ j ≤ l.length ∧ i = .int .i64 (j : Int) ∧ Hid (Var3 wr w.heap.size (0, 0, 0)) ∧ Hid (Var3 wr (w.heap.size + 1) (minTo rankL l (j - 1))) ∧ Below w.heap.size w wr) (fun i _ => l.length - (intOf i).toNat)
  case atStart =>
    refine ⟨1, by omega, by omega, rfl, ?_, ?_, ?_⟩
    · exact ⟨by go_simp, by go_simp, by go_simp, by go_simp, by go_simp, by go_simp⟩
    · rw [HT0.out]
      exact ⟨by go_simp, by go_simp, by go_simp, by go_simp, by go_simp, by go_simp⟩
    · repeat (first | exact Below.refl _ _ | refine Below.alloc ?_ (by simp <;> omega) _ | refine Below.setCell ?_ (by simp <;> omega) _)
  case round =>
    clear c0 c1 c2
    obtain ⟨j, hj1, hj, rfl, HZ0, HM, hB⟩ := hrel
    have hsr := hB.size
    by_cases hlt : j < l.length
    · obtain ⟨d0, d1, d2⟩ := HC.out j hlt
      have hd1 : b < w.heap.size := cell_lt d0
      have HT := hid (show minTo rankL l (j + 1 - 1) = if rankL (clAt l j) (minTo rankL l (j - 1)) < 0 then clAt l j else minTo rankL l (j - 1) by obtain ⟨k, rfl⟩ : ∃ k, j = k + 1 := ⟨j - 1, by omega⟩; rfl)
      have gx := HG.out j hlt
      have gm := HGm.out (j - 1) (by omega)
      have c0 : wr.cell? ⟨b, off + j * 3, none⟩ = some (.int .i64 (clAt l j).1) := by rw [hB.cell hd1]; exact d0
      have c1 : wr.cell? ⟨b, off + j * 3 + 1, none⟩ = some (.int .i64 (clAt l j).2.1) := by rw [hB.cell hd1]; exact d1
      have c2 : wr.cell? ⟨b, off + j * 3 + 2, none⟩ = some (.int .i64 (clAt l j).2.2) := by rw [hB.cell hd1]; exact d2
      clear d0 d1 d2
      generalize clAt l j = x at *
      generalize minTo rankL l (j - 1) = m at *
      obtain ⟨s, v, t⟩ := x
      obtain ⟨sm, vm, tm⟩ := m
      have HZ := hid (show ∀ w : World, Calls Try.prog 56 #[.agg #[.int .i64 s, .int .i64 v, .int .i64 t], .agg #[.int .i64 sm, .int .i64 vm, .int .i64 tm]] w (IntR w (rankL (s, v, t) (sm, vm, tm))) from fun w => rank_any s v t sm vm tm w gx gm)
      have S0 := hid (show MaxS w b (off + j * 3) (sm, vm, tm) (s, v, t) wr from ⟨HM.out.1, HM.out.2.1, HM.out.2.2.1, c0, c1, c2, hB⟩)
      clear c0 c1 c2
      have hk0 : (0 : Int) ≤ (j : Int) := Int.natCast_nonneg _
      have hk1 : (j : Int) < (l.length : Int) := by omega
      generalize rankL (s, v, t) (sm, vm, tm) = z at *
      go_wp2_with fail
      by_cases hz : z < 0
      all_goals
        go_region_held3 (fun w' => w'.cell? ⟨w.heap.size + 1, 0, none⟩ = some (.int .i64 sm) ∧ w'.cell? ⟨w.heap.size + 1, 1, none⟩ = some (.int .i64 vm) ∧ w'.cell? ⟨w.heap.size + 1, 2, none⟩ = some (.int .i64 tm) ∧ w'.cell? ⟨b, off + j * 3, none⟩ = some (.int .i64 s) ∧ w'.cell? ⟨b, off + j * 3 + 1, none⟩ = some (.int .i64 v) ∧ w'.cell? ⟨b, off + j * 3 + 2, none⟩ = some (.int .i64 t) ∧ Below w.heap.size w w')
          (first | assumption | exact S0.out.drew | exact S0.out | exact MaxS.keep (c := (sm, vm, tm)) (d := (s, v, t)) (by assumption) (by assumption))
          (first | (go_at_call 56; refine (HZ.out _).mono ?_; rintro en w4 ⟨hb4, rfl⟩))
      · have HX := hid hz
        have hb : Below wr.heap.size wr w4 := by first | exact hb4 | exact (Below.refl _ wr).drew.trans hb4
        have HZ4 := hid (HZ0.out.keep hb)
        have HM4 := hid (HM.out.keep hb)
        have hw1 : w.heap.size + 1 < wr.heap.size := cell_lt HM.out.1
        have hHeld : MaxS w b (off + j * 3) (sm, vm, tm) (s, v, t) w4 := by assumption
        obtain ⟨_, _, _, e0, e1, e2, p4⟩ := hHeld
        obtain ⟨m0, m1, m2, f0, f1, f2⟩ := HM4.out
        have hws := hb.size
        clear hz
        have hz' : z < 0 := by have := HX.out; omega
        go_wp2
        go_roundw
        case rel => exact ⟨j + 1, by omega, by omega, by go_num, ((HZ4.out.far _ (by simp) _).far _ (by simp) _).far _ (by simp) _, by unfold Hid; rw [HT.out, if_pos (by have := HX.out; omega)]; exact Var3.set (d := (s, v, t)) HM4.out, ((p4.setCell (by simp) _).setCell (by simp) _).setCell (by simp) _⟩
        case measure => simp [intOf]; omega
      · have HX := hid hz
        have hb : Below wr.heap.size wr w4 := by first | exact hb4 | exact (Below.refl _ wr).drew.trans hb4
        have HZ4 := hid (HZ0.out.keep hb)
        have HM4 := hid (HM.out.keep hb)
        have hz' : 0 ≤ z := by have := HX.out; omega
        have hHeld : MaxS w b (off + j * 3) (sm, vm, tm) (s, v, t) w4 := by assumption
        obtain ⟨_, _, _, e0, e1, e2, p4⟩ := hHeld
        clear hz
        go_wp2
        go_roundw
        case rel => exact ⟨j + 1, by omega, by omega, by go_num, HZ4.out, by unfold Hid; rw [HT.out, if_neg (by have := HX.out; omega)]; exact HM4.out, p4⟩
        case measure => simp [intOf]; omega
    · obtain rfl : j = l.length := by omega
      obtain ⟨m0, m1, m2, f0, f1, f2⟩ := HM.out
      obtain ⟨z0, z1, z2, y0, y1, y2⟩ := HZ0.out
      generalize minTo rankL l (l.length - 1) = m at *
      obtain ⟨t0, t1, t2⟩ := set3_cells wr w.heap.size (.int .i64 m.1) (.int .i64 m.2.1) (.int .i64 m.2.2) _ _ _ z0 z1 z2
      have HB := hid (((hB.setCell (p := ⟨w.heap.size, 0, none⟩) (Nat.le_refl _) (.int .i64 m.1)).setCell (p := ⟨w.heap.size, 1, none⟩) (Nat.le_refl _) (.int .i64 m.2.1)).setCell (p := ⟨w.heap.size, 2, none⟩) (Nat.le_refl _) (.int .i64 m.2.2))
      go_wp2
      exact bodyPost_ret (v := .agg #[.int .i64 m.1, .int .i64 m.2.1, .int .i64 m.2.2]) (by simp [results, Try.results55, go_sem, t0, t1, t2]) rfl ⟨HB.out, rfl⟩

end Go.Proofs.Ytnjaacmcdkiilaa
