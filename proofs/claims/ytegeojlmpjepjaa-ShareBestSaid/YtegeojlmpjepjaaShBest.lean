/- Best of package share. -/
import Derived.Test.YtegeojlmpjepjaaShSome
import Derived.Laws.Rows
set_option linter.unusedVariables false
namespace Go.Proofs.Ytegeojlmpjepjaa
open Go.RowKit

def bestE (os : List Int) (n : Int) : Bool := okO os && inW n 0 1000
def Nil3 : Value := .agg #[.slice none 0 0, .slice none 0 0, .slice none 0 0]
/-- Three cells of a variable that may be written. -/
def Row3 (w : World) (g : Nat) (v0 v1 v2 : Value) : Prop := w.cell? ⟨g, 0, none⟩ = some v0 ∧ w.cell? ⟨g, 1, none⟩ = some v1 ∧ w.cell? ⟨g, 2, none⟩ = some v2 ∧ w.frozen? ⟨g, 0, none⟩ = false ∧ w.frozen? ⟨g, 1, none⟩ = false ∧ w.frozen? ⟨g, 2, none⟩ = false
theorem Row3.keep {w w2 : World} {g : Nat} {v0 v1 v2 : Value} (h : Row3 w g v0 v1 v2) (hb : Below w.heap.size w w2) : Row3 w2 g v0 v1 v2 := by
  obtain ⟨a0, a1, a2, f0, f1, f2⟩ := h
  refine ⟨?_, ?_, ?_, ?_, ?_, ?_⟩
  · rw [hb.cell (cell_lt a0)]; exact a0
  · rw [hb.cell (cell_lt a1)]; exact a1
  · rw [hb.cell (cell_lt a2)]; exact a2
  · rw [hb.frozen (cell_lt a0)]; exact f0
  · rw [hb.frozen (cell_lt a1)]; exact f1
  · rw [hb.frozen (cell_lt a2)]; exact f2

set_option maxRecDepth 100000 in
set_option maxHeartbeats 4000000 in
theorem best_err (oa : Option Addr) (os : List Int) (oc : Nat) (n : Int) (w : World) (ho : Ints w oa os) (hE : bestE os n = false) :
  Calls Try.prog 45 #[.slice oa os.length oc, .int .i64 n] w (fun en w' => Below w.heap.size w w' ∧ en = .returned (.tuple #[Nil3, .int .i64 1])) := by
  have HV := hid (fun (w' : World) (hb : Below w.heap.size w w') => checkNumber_any oa os oc n w' (ho.below hb))
  rw [show (okO os && inW n 0 1000) = bestE os n from rfl, hE] at HV
  clear hE ho
  go_enter Try.func45, Try.ntmps45
  go_wp2_with fail
  refine (HV.out _ ?_).mono ?_
  · repeat (first | exact Below.refl _ _ | refine Below.alloc ?_ (by simp <;> omega) _ | refine Below.setCell ?_ (by simp <;> omega) _)
  rintro e w' ⟨rfl, rfl⟩
  rw [show err false = 1 from rfl]
  go_wp2
  exact bodyPost_ret (v := .tuple #[.agg #[.slice none 0 0, .slice none 0 0, .slice none 0 0], .int .i64 1]) (by simp [results, Try.results45, go_sem]) rfl ⟨by repeat (first | exact Below.refl _ _ | refine Below.alloc ?_ (by simp <;> omega) _ | refine Below.setCell ?_ (by simp <;> omega) _), rfl⟩

theorem Row3.set0 {w : World} {g : Nat} {v0 v1 v2 : Value} (h : Row3 w g v0 v1 v2) (v : Value) : Row3 (w.setCell ⟨g, 0, none⟩ v) g v v1 v2 := by
  obtain ⟨a0, a1, a2, f0, f1, f2⟩ := h
  exact ⟨by go_simp, by go_simp, by go_simp, by simpa using f0, by simpa using f1, by simpa using f2⟩
theorem Row3.set1 {w : World} {g : Nat} {v0 v1 v2 : Value} (h : Row3 w g v0 v1 v2) (v : Value) : Row3 (w.setCell ⟨g, 1, none⟩ v) g v0 v v2 := by
  obtain ⟨a0, a1, a2, f0, f1, f2⟩ := h
  exact ⟨by go_simp, by go_simp, by go_simp, by simpa using f0, by simpa using f1, by simpa using f2⟩
theorem Row3.set2 {w : World} {g : Nat} {v0 v1 v2 : Value} (h : Row3 w g v0 v1 v2) (v : Value) : Row3 (w.setCell ⟨g, 2, none⟩ v) g v0 v1 v := by
  obtain ⟨a0, a1, a2, f0, f1, f2⟩ := h
  exact ⟨by go_simp, by go_simp, by go_simp, by simpa using f0, by simpa using f1, by simpa using f2⟩
theorem Row3.far {w : World} {g : Nat} {v0 v1 v2 : Value} (h : Row3 w g v0 v1 v2) (p : Addr) (hp : p.block ≠ g) (v : Value) : Row3 (w.setCell p v) g v0 v1 v2 := by
  obtain ⟨a0, a1, a2, f0, f1, f2⟩ := h
  have hp' : ∀ o, p ≠ ⟨g, o, none⟩ := fun o e => hp (by rw [e])
  exact ⟨by rw [World.cell?_setCell_other _ _ _ _ (hp' _)]; exact a0, by rw [World.cell?_setCell_other _ _ _ _ (hp' _)]; exact a1, by rw [World.cell?_setCell_other _ _ _ _ (hp' _)]; exact a2, by simpa using f0, by simpa using f1, by simpa using f2⟩
def kindL (os : List Int) (n : Nat) (k : Int) : List Int := (giveL k os n).2
/-- What the loop over the kinds holds on to. -/
structure BestW (w0 : World) (os : List Int) (n j : Nat) (v0 v1 v2 : Value) (w : World) : Prop where
  row : Row3 w (w0.heap.size + 1) v0 v1 v2
  res : Row3 w w0.heap.size (.slice none 0 0) (.slice none 0 0) (.slice none 0 0)
  o0 : 0 < j → Own w (w0.heap.size + 2) v0 (kindL os n 0)
  o1 : 1 < j → Own w (w0.heap.size + 2) v1 (kindL os n 1)
  o2 : 2 < j → Own w (w0.heap.size + 2) v2 (kindL os n 2)
  bel : Below w0.heap.size w0 w
theorem BestW.keep {w0 : World} {os : List Int} {n j : Nat} {v0 v1 v2 : Value} {w w2 : World} (h : BestW w0 os n j v0 v1 v2 w) (hb : Below w.heap.size w w2) : BestW w0 os n j v0 v1 v2 w2 :=
  ⟨h.row.keep hb, h.res.keep hb, fun g => (h.o0 g).below hb, fun g => (h.o1 g).below hb, fun g => (h.o2 g).below hb, h.bel.trans (hb.mono h.bel.size)⟩
theorem BestW.size {w0 : World} {os : List Int} {n j : Nat} {v0 v1 v2 : Value} {w : World} (h : BestW w0 os n j v0 v1 v2 w) : w0.heap.size + 2 ≤ w.heap.size := cell_lt h.row.1
theorem BestW.st0 {w0 : World} {os : List Int} {n : Nat} {v0 v1 v2 v : Value} {w : World} (h : BestW w0 os n 0 v0 v1 v2 w) (ho : Own w (w0.heap.size + 2) v (kindL os n 0)) : BestW w0 os n 1 v v1 v2 (w.setCell ⟨w0.heap.size + 1, 0, none⟩ v) :=
  ⟨h.row.set0 v, h.res.far _ (by simp) v, fun _ => own_setCell ho _ (by simp) v, fun g => by omega, fun g => by omega, h.bel.setCell (by simp) v⟩
theorem BestW.st1 {w0 : World} {os : List Int} {n : Nat} {v0 v1 v2 v : Value} {w : World} (h : BestW w0 os n 1 v0 v1 v2 w) (ho : Own w (w0.heap.size + 2) v (kindL os n 1)) : BestW w0 os n 2 v0 v v2 (w.setCell ⟨w0.heap.size + 1, 1, none⟩ v) :=
  ⟨h.row.set1 v, h.res.far _ (by simp) v, fun _ => own_setCell (h.o0 (by omega)) _ (by simp) v, fun _ => own_setCell ho _ (by simp) v, fun g => by omega, h.bel.setCell (by simp) v⟩
theorem BestW.st2 {w0 : World} {os : List Int} {n : Nat} {v0 v1 v2 v : Value} {w : World} (h : BestW w0 os n 2 v0 v1 v2 w) (ho : Own w (w0.heap.size + 2) v (kindL os n 2)) : BestW w0 os n 3 v0 v1 v (w.setCell ⟨w0.heap.size + 1, 2, none⟩ v) :=
  ⟨h.row.set2 v, h.res.far _ (by simp) v, fun _ => own_setCell (h.o0 (by omega)) _ (by simp) v, fun _ => own_setCell (h.o1 (by omega)) _ (by simp) v, fun _ => own_setCell ho _ (by simp) v, h.bel.setCell (by simp) v⟩
def BestR (w : World) (os : List Int) (n : Nat) (en : Ending) (w' : World) : Prop := Below w.heap.size w w' ∧ ∃ A0 c0 A1 c1 A2 c2, en = .returned (.tuple #[.agg #[.slice A0 os.length c0, .slice A1 os.length c1, .slice A2 os.length c2], .int .i64 0]) ∧ Own w' w.heap.size (.slice A0 os.length c0) (kindL os n 0) ∧ Own w' w.heap.size (.slice A1 os.length c1) (kindL os n 1) ∧ Own w' w.heap.size (.slice A2 os.length c2) (kindL os n 2)

set_option maxRecDepth 100000 in
set_option maxHeartbeats 8000000 in
theorem best_ok (oa : Option Addr) (os : List Int) (oc n : Nat) (w : World) (ho : Ints w oa os) (go : okO os = true) (hn : n ≤ 1000) :
  Calls Try.prog 45 #[.slice oa os.length oc, .int .i64 (n : Int)] w (BestR w os n) := by
  have HV := hid (fun (w' : World) (hb : Below w.heap.size w w') => checkNumber_any oa os oc (n : Int) w' (ho.below hb))
  rw [go, show inW (n : Int) 0 1000 = true by simp [inW]; omega] at HV
  have HG := hid (fun (k : Int) (hk : okK k = true) (w' : World) (hb : Below w.heap.size w w') => giveAway_any k oa os oc n w' (ho.below hb) go hk hn)
  have HLn := hid (fun k => giveL_len2 k os n)
  have S0 := hid (show BestW w os n 0 (.slice none 0 0) (.slice none 0 0) (.slice none 0 0) ((w.alloc (.cells #[.slice none 0 0, .slice none 0 0, .slice none 0 0] 57)).alloc (.cells #[.slice none 0 0, .slice none 0 0, .slice none 0 0] 57)) from
    ⟨⟨by go_simp, by go_simp, by go_simp, by go_simp, by go_simp, by go_simp⟩, ⟨by go_simp, by go_simp, by go_simp, by go_simp, by go_simp, by go_simp⟩, fun h => by omega, fun h => by omega, fun h => by omega, ((Below.refl _ _).alloc (Nat.le_refl _) _).alloc (by simp) _⟩)
  clear go ho
  go_enter Try.func45, Try.ntmps45
  go_wp2_with fail
  refine (HV.out _ S0.out.bel).mono ?_
  rintro e w' ⟨rfl, rfl⟩
  rw [show err (true && true) = 0 from rfl]
  go_wp2
  go_loopw [16] (fun i wr => ∃ (j : Nat) (v0 v1 v2 : Value), j ≤ 3 ∧ i = .int .i64 (j : Int) ∧ Hid (BestW w os n j v0 v1 v2 wr)) (fun i _ => 3 - (intOf i).toNat)
  case atStart => exact ⟨0, _, _, _, by omega, rfl, S0.out⟩
  case round =>
    obtain ⟨j, v0, v1, v2, hj, rfl, HB⟩ := hrel
    have hsz := HB.out.size
    have hc : j = 0 ∨ j = 1 ∨ j = 2 ∨ j = 3 := by omega
    rcases hc with rfl | rfl | rfl | rfl
    · go_wp2_with fail
      refine (HG.out 0 rfl _ HB.out.bel).mono ?_
      rintro e w4 ⟨z4, A, c, B, d, rfl, o1, o2⟩
      have HB4 := hid (HB.out.keep z4)
      obtain ⟨a0, a1, a2, f0, f1, f2⟩ := HB4.out.row
      have HN := hid (HB4.out.st0 (own_weak o2 (by omega)))
      clear z4 o1 o2
      go_wp2
      go_roundw
      case rel => exact ⟨1, _, _, _, by omega, rfl, HN.out⟩
      case measure => simp [intOf]
    · go_wp2_with fail
      refine (HG.out 1 rfl _ HB.out.bel).mono ?_
      rintro e w4 ⟨z4, A, c, B, d, rfl, o1, o2⟩
      have HB4 := hid (HB.out.keep z4)
      obtain ⟨a0, a1, a2, f0, f1, f2⟩ := HB4.out.row
      have HN := hid (HB4.out.st1 (own_weak o2 (by omega)))
      clear z4 o1 o2
      go_wp2
      go_roundw
      case rel => exact ⟨2, _, _, _, by omega, rfl, HN.out⟩
      case measure => simp [intOf]
    · go_wp2_with fail
      refine (HG.out 2 rfl _ HB.out.bel).mono ?_
      rintro e w4 ⟨z4, A, c, B, d, rfl, o1, o2⟩
      have HB4 := hid (HB.out.keep z4)
      obtain ⟨a0, a1, a2, f0, f1, f2⟩ := HB4.out.row
      have HN := hid (HB4.out.st2 (own_weak o2 (by omega)))
      clear z4 o1 o2
      go_wp2
      go_roundw
      case rel => exact ⟨3, _, _, _, by omega, rfl, HN.out⟩
      case measure => simp [intOf]
    · obtain ⟨A0, c0, rfl⟩ := Own.sl4 (HB.out.o0 (by omega))
      obtain ⟨A1, c1, rfl⟩ := Own.sl4 (HB.out.o1 (by omega))
      obtain ⟨A2, c2, rfl⟩ := Own.sl4 (HB.out.o2 (by omega))
      unfold kindL at HB
      rw [HLn.out 0, HLn.out 1, HLn.out 2] at HB
      obtain ⟨a0, a1, a2, f0, f1, f2⟩ := HB.out.row
      obtain ⟨r0, r1, r2, y0, y1, y2⟩ := HB.out.res
      obtain ⟨t0, t1, t2⟩ := set3_cells wr w.heap.size (.slice A0 os.length c0) (.slice A1 os.length c1) (.slice A2 os.length c2) _ _ _ r0 r1 r2
      have HBz := hid (((HB.out.bel.setCell (p := ⟨w.heap.size, 0, none⟩) (Nat.le_refl _) (.slice A0 os.length c0)).setCell (p := ⟨w.heap.size, 1, none⟩) (Nat.le_refl _) (.slice A1 os.length c1)).setCell (p := ⟨w.heap.size, 2, none⟩) (Nat.le_refl _) (.slice A2 os.length c2))
      go_wp2
      refine bodyPost_ret (v := .tuple #[.agg #[.slice A0 os.length c0, .slice A1 os.length c1, .slice A2 os.length c2], .int .i64 0]) (by simp [results, Try.results45, go_sem, t0, t1, t2]) rfl ⟨HBz.out, A0, c0, A1, c1, A2, c2, rfl, ?_, ?_, ?_⟩
      · exact own_weak (own_setCell (own_setCell (own_setCell (HB.out.o0 (by omega)) _ (by simp) _) _ (by simp) _) _ (by simp) _) (by omega)
      · exact own_weak (own_setCell (own_setCell (own_setCell (HB.out.o1 (by omega)) _ (by simp) _) _ (by simp) _) _ (by simp) _) (by omega)
      · exact own_weak (own_setCell (own_setCell (own_setCell (HB.out.o2 (by omega)) _ (by simp) _) _ (by simp) _) _ (by simp) _) (by omega)
set_option maxRecDepth 100000 in
set_option maxHeartbeats 4000000 in
theorem rbest_err (oa : Option Addr) (os : List Int) (oc : Nat) (n : Int) (w : World) (ho : Ints w oa os) (hE : bestE os n = false) :
  Calls Try.prog 46 #[.slice oa os.length oc, .int .i64 n] w (fun en w' => Below w.heap.size w w' ∧ en = .returned (.tuple #[Nil3, .int .i64 1])) := by
  have hd : divE os n 0 = false := by unfold divE; rw [show (okO os && inW n 0 1000) = bestE os n from rfl, hE]; rfl
  have hL : divL os n 0 = [] := by rw [divL, hd]; rfl
  have HV := hid (fun (w' : World) (hb : Below w.heap.size w w') => rdivide_any oa os oc n 0 w' (ho.below hb))
  rw [hd, hL] at HV
  have hB0 := ((Below.refl w.heap.size w).alloc (Nat.le_refl _) (.cells #[.slice none 0 0, .slice none 0 0, .slice none 0 0] 57)).alloc (by simp) (.cells #[.slice none 0 0, .slice none 0 0, .slice none 0 0] 57)
  have S0 := hid (show Row3 ((w.alloc (.cells #[.slice none 0 0, .slice none 0 0, .slice none 0 0] 57)).alloc (.cells #[.slice none 0 0, .slice none 0 0, .slice none 0 0] 57)) w.heap.size (.slice none 0 0) (.slice none 0 0) (.slice none 0 0) from ⟨by go_simp, by go_simp, by go_simp, by go_simp, by go_simp, by go_simp⟩)
  clear hE ho hd hL
  go_enter Try.func46, Try.ntmps46
  go_wp2
  refine wp_loop_rounds 1 ?_
  rw [rounds_succ]
  go_wp2_with fail
  refine (HV.out _ hB0).mono ?_
  rintro e w1 ⟨z1, A, c, rfl, o1⟩
  rw [show err false = 1 from rfl]
  have p1 := hB0.trans (z1.mono (by simp; omega))
  obtain ⟨r0, r1, r2, y0, y1, y2⟩ := (S0.out.keep z1)
  obtain ⟨t0, t1, t2⟩ := set3_cells w1 w.heap.size (.slice none 0 0) (.slice none 0 0) (.slice none 0 0) _ _ _ r0 r1 r2
  have HBz := hid (((p1.setCell (p := ⟨w.heap.size, 0, none⟩) (Nat.le_refl _) (.slice none 0 0)).setCell (p := ⟨w.heap.size, 1, none⟩) (Nat.le_refl _) (.slice none 0 0)).setCell (p := ⟨w.heap.size, 2, none⟩) (Nat.le_refl _) (.slice none 0 0))
  go_wp2
  exact bodyPost_ret (v := .tuple #[.agg #[.slice none 0 0, .slice none 0 0, .slice none 0 0], .int .i64 1]) (by simp [results, Try.results46, go_sem, t0, t1, t2]) rfl ⟨HBz.out, rfl⟩

set_option maxRecDepth 100000 in
set_option maxHeartbeats 8000000 in
theorem rbest_ok (oa : Option Addr) (os : List Int) (oc n : Nat) (w : World) (ho : Ints w oa os) (go : okO os = true) (hn : n ≤ 1000) :
  Calls Try.prog 46 #[.slice oa os.length oc, .int .i64 (n : Int)] w (BestR w os n) := by
  have HG := hid (fun (k : Int) (hk : okK k = true) (w' : World) (hb : Below w.heap.size w w') => by
    have hd : divE os (n : Int) k = true := by
      simp only [divE, Bool.and_eq_true]
      exact ⟨⟨go, by simp [inW]; omega⟩, hk⟩
    have := rdivide_any oa os oc (n : Int) k w' (ho.below hb)
    rw [show divL os (n : Int) k = kindL os n k by rw [divL, if_pos hd, Int.toNat_natCast]; rfl, hd] at this
    exact this)
  simp only [show err true = 0 from rfl] at HG
  have HLn := hid (fun k => giveL_len2 k os n)
  have S0 := hid (show BestW w os n 0 (.slice none 0 0) (.slice none 0 0) (.slice none 0 0) ((w.alloc (.cells #[.slice none 0 0, .slice none 0 0, .slice none 0 0] 57)).alloc (.cells #[.slice none 0 0, .slice none 0 0, .slice none 0 0] 57)) from
    ⟨⟨by go_simp, by go_simp, by go_simp, by go_simp, by go_simp, by go_simp⟩, ⟨by go_simp, by go_simp, by go_simp, by go_simp, by go_simp, by go_simp⟩, fun h => by omega, fun h => by omega, fun h => by omega, ((Below.refl _ _).alloc (Nat.le_refl _) _).alloc (by simp) _⟩)
  clear go ho
  go_enter Try.func46, Try.ntmps46
  go_wp2
  go_loopw [7] (fun i wr => ∃ (j : Nat) (v0 v1 v2 : Value), j ≤ 3 ∧ i = .int .i64 (j : Int) ∧ Hid (BestW w os n j v0 v1 v2 wr)) (fun i _ => 3 - (intOf i).toNat)
  case atStart => exact ⟨0, _, _, _, by omega, rfl, S0.out⟩
  case round =>
    obtain ⟨j, v0, v1, v2, hj, rfl, HB⟩ := hrel
    have hsz := HB.out.size
    have hc : j = 0 ∨ j = 1 ∨ j = 2 ∨ j = 3 := by omega
    rcases hc with rfl | rfl | rfl | rfl
    · go_wp2_with fail
      refine (HG.out 0 rfl _ HB.out.bel).mono ?_
      rintro e w4 ⟨z4, B, d, rfl, o2⟩
      have HB4 := hid (HB.out.keep z4)
      obtain ⟨a0, a1, a2, f0, f1, f2⟩ := HB4.out.row
      have HN := hid (HB4.out.st0 (own_weak o2 (by omega)))
      clear z4 o2
      go_wp2
      go_roundw
      case rel => exact ⟨1, _, _, _, by omega, rfl, HN.out⟩
      case measure => simp [intOf]
    · go_wp2_with fail
      refine (HG.out 1 rfl _ HB.out.bel).mono ?_
      rintro e w4 ⟨z4, B, d, rfl, o2⟩
      have HB4 := hid (HB.out.keep z4)
      obtain ⟨a0, a1, a2, f0, f1, f2⟩ := HB4.out.row
      have HN := hid (HB4.out.st1 (own_weak o2 (by omega)))
      clear z4 o2
      go_wp2
      go_roundw
      case rel => exact ⟨2, _, _, _, by omega, rfl, HN.out⟩
      case measure => simp [intOf]
    · go_wp2_with fail
      refine (HG.out 2 rfl _ HB.out.bel).mono ?_
      rintro e w4 ⟨z4, B, d, rfl, o2⟩
      have HB4 := hid (HB.out.keep z4)
      obtain ⟨a0, a1, a2, f0, f1, f2⟩ := HB4.out.row
      have HN := hid (HB4.out.st2 (own_weak o2 (by omega)))
      clear z4 o2
      go_wp2
      go_roundw
      case rel => exact ⟨3, _, _, _, by omega, rfl, HN.out⟩
      case measure => simp [intOf]
    · obtain ⟨A0, c0, rfl⟩ := Own.sl4 (HB.out.o0 (by omega))
      obtain ⟨A1, c1, rfl⟩ := Own.sl4 (HB.out.o1 (by omega))
      obtain ⟨A2, c2, rfl⟩ := Own.sl4 (HB.out.o2 (by omega))
      unfold kindL at HB
      rw [HLn.out 0, HLn.out 1, HLn.out 2] at HB
      obtain ⟨a0, a1, a2, f0, f1, f2⟩ := HB.out.row
      obtain ⟨r0, r1, r2, y0, y1, y2⟩ := HB.out.res
      obtain ⟨t0, t1, t2⟩ := set3_cells wr w.heap.size (.slice A0 os.length c0) (.slice A1 os.length c1) (.slice A2 os.length c2) _ _ _ r0 r1 r2
      have HBz := hid (((HB.out.bel.setCell (p := ⟨w.heap.size, 0, none⟩) (Nat.le_refl _) (.slice A0 os.length c0)).setCell (p := ⟨w.heap.size, 1, none⟩) (Nat.le_refl _) (.slice A1 os.length c1)).setCell (p := ⟨w.heap.size, 2, none⟩) (Nat.le_refl _) (.slice A2 os.length c2))
      go_wp2
      refine bodyPost_ret (v := .tuple #[.agg #[.slice A0 os.length c0, .slice A1 os.length c1, .slice A2 os.length c2], .int .i64 0]) (by simp [results, Try.results46, go_sem, t0, t1, t2]) rfl ⟨HBz.out, A0, c0, A1, c1, A2, c2, rfl, ?_, ?_, ?_⟩
      · exact own_weak (own_setCell (own_setCell (own_setCell (HB.out.o0 (by omega)) _ (by simp) _) _ (by simp) _) _ (by simp) _) (by omega)
      · exact own_weak (own_setCell (own_setCell (own_setCell (HB.out.o1 (by omega)) _ (by simp) _) _ (by simp) _) _ (by simp) _) (by omega)
      · exact own_weak (own_setCell (own_setCell (own_setCell (HB.out.o2 (by omega)) _ (by simp) _) _ (by simp) _) _ (by simp) _) (by omega)
end Go.Proofs.Ytegeojlmpjepjaa
