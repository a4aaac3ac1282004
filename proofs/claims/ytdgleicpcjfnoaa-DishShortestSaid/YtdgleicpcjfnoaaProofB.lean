/- Steps that are right: isRight of package dish (written by gen_proofb.py). -/
import Derived.Test.YtdgleicpcjfnoaaProofA
import Derived.Test.YtdgleicpcjfnoaaSteps
import Derived.Test.YtdgleicpcjfnoaaTakeD
import Derived.Deep.Cut
set_option linter.unusedVariables false
set_option linter.unusedSimpArgs false
namespace Go.Proofs.Ytdgleicpcjfnoaa
open Go.RowKit

/-- The boxes of a book and of a step. -/
def TwoBk (W : World) (g : Nat) (P : Int) (iv rv : Value) (s : StepL) : Prop := W.cell? ⟨g, 0, none⟩ = some (.int .i64 P) ∧ W.cell? ⟨g, 1, none⟩ = some iv ∧ W.cell? ⟨g, 2, none⟩ = some rv ∧ W.cell? ⟨g + 1, 0, none⟩ = some (.int .i64 s.1) ∧ W.cell? ⟨g + 1, 1, none⟩ = some (.int .i64 s.2.1) ∧ W.cell? ⟨g + 1, 2, none⟩ = some (.int .i64 s.2.2)
theorem TwoBk.below {W W' : World} {g : Nat} {P : Int} {iv rv : Value} {s : StepL} (h : TwoBk W g P iv rv s) (hb : Below W.heap.size W W') : TwoBk W' g P iv rv s := by
  obtain ⟨a0, a1, a2, b0, b1, b2⟩ := h
  exact ⟨by rw [hb.cell (cell_lt a0)]; exact a0, by rw [hb.cell (cell_lt a1)]; exact a1, by rw [hb.cell (cell_lt a2)]; exact a2, by rw [hb.cell (cell_lt b0)]; exact b0, by rw [hb.cell (cell_lt b1)]; exact b1, by rw [hb.cell (cell_lt b2)]; exact b2⟩


set_option maxRecDepth 100000 in
set_option maxHeartbeats 4000000 in
theorem isRight_o1 (P : Int) (ia : Option Addr) (its : List ItemL) (ic : Nat) (rv : Value) (n : Nat) (p : Int) (f : Int) (pa : Option Addr) (pl pc : Nat) (w : World) (h : ItemsAt w ia its) (hl : its.length ≤ 20) (hn : n < its.length) (hi : itemsE P 0 its = 0) (hf : ¬ (0 ≤ f ∧ f < (its.length : Int))) :
  Calls Try.prog 65 #[.agg #[.int .i64 P, .slice ia its.length ic, rv], .int .i64 n, .agg #[.int .i64 p, .int .i64 f, .int .i64 (-1)], .slice pa pl pc] w (BoolR w (false)) := by
  have hBx : TwoBk ((w.alloc (.cells #[.int .i64 P, .slice ia its.length ic, rv] 25)).alloc (.cells #[.int .i64 p, .int .i64 f, .int .i64 (-1)] 53)) w.heap.size P (.slice ia its.length ic) rv (p, f, -1) := ⟨by go_simp, by go_simp, by go_simp, by go_simp, by go_simp, by go_simp⟩
  have hB0 : Below w.heap.size w ((w.alloc (.cells #[.int .i64 P, .slice ia its.length ic, rv] 25)).alloc (.cells #[.int .i64 p, .int .i64 f, .int .i64 (-1)] 53)) := ((Below.refl w.heap.size w).alloc (Nat.le_refl _) _).alloc (by simp) _
  have HB0 := hid hB0
  have HBx := hid hBx
  have HCo := hid (fun w' (hb : Below w.heap.size w w') => contained_any P ia its ic rv n w' (h.below hb) hl hn hi)
  have HIt := hid (fun w => isItem_any P ia its.length ic rv f w (by omega))
  rw [decide_eq_false hf] at HIt
  clear hf
  clear h hl hi hBx hB0
  go_enter Try.func65, Try.ntmps65
  go_wp2
  generalize ((w.alloc (.cells #[.int .i64 P, .slice ia its.length ic, rv] 25)).alloc (.cells #[.int .i64 p, .int .i64 f, .int .i64 (-1)] 53)) = W0 at *
  have HKp := hid (fun w' (hb : Below W0.heap.size W0 w') => (show w'.cell? ⟨w.heap.size, 0, none⟩ = some (.int .i64 P) ∧ w'.cell? ⟨w.heap.size, 1, none⟩ = some (.slice ia its.length ic) ∧ w'.cell? ⟨w.heap.size, 2, none⟩ = some (rv) ∧ w'.cell? ⟨w.heap.size + 1, 0, none⟩ = some (.int .i64 p) ∧ w'.cell? ⟨w.heap.size + 1, 1, none⟩ = some (.int .i64 f) ∧ w'.cell? ⟨w.heap.size + 1, 2, none⟩ = some (.int .i64 (-1)) ∧ Below W0.heap.size W0 w' from by
    obtain ⟨e0, e1, e2, e3, e4, e5⟩ := HBx.out.below hb
    exact ⟨e0, e1, e2, e3, e4, e5, hb⟩))

  refine wp_region_held_drew (S := (fun w' => w'.cell? ⟨w.heap.size, 0, none⟩ = some (.int .i64 P) ∧ w'.cell? ⟨w.heap.size, 1, none⟩ = some (.slice ia its.length ic) ∧ w'.cell? ⟨w.heap.size, 2, none⟩ = some (rv) ∧ w'.cell? ⟨w.heap.size + 1, 0, none⟩ = some (.int .i64 p) ∧ w'.cell? ⟨w.heap.size + 1, 1, none⟩ = some (.int .i64 f) ∧ w'.cell? ⟨w.heap.size + 1, 2, none⟩ = some (.int .i64 (-1)) ∧ Below W0.heap.size W0 w')) (by kernel_rfl) (HKp.out _ ((Below.refl _ W0).drew)) (fun hHeld => ?_)
  refine take_d (i := 0) (d := some 13) (v := ?_) rfl rfl (by kernel_rfl) (by kernel_rfl) (by kernel_rfl) (fun _ _ _ h => h) (Or.inl ⟨by first | rfl | (simp [*, Region.wanted, yielded]), ?hyo11⟩) (by assumption) ?resto11
  case hyo11 => (intro w hSw; (try dsimp only at hSw); go_simp <;> with_reducible rfl)
  try simp only [Act.put, List.setIfInBounds_toArray, List.set_cons_zero, List.set_cons_succ]
  refine take_d (i := 1) (d := some 14) (v := ?_) rfl rfl (by kernel_rfl) (by kernel_rfl) (by kernel_rfl) (fun _ _ _ h => h) (Or.inl ⟨by first | rfl | (simp [*, Region.wanted, yielded]), ?hyo12⟩) (by assumption) ?resto12
  case hyo12 => (intro w hSw; (try dsimp only at hSw); go_simp <;> with_reducible rfl)
  try simp only [Act.put, List.setIfInBounds_toArray, List.set_cons_zero, List.set_cons_succ]
  refine take_d (i := 2) (d := some 15) (v := ?_) rfl rfl (by kernel_rfl) (by kernel_rfl) (by kernel_rfl) (fun _ _ _ h => h) (Or.inl ⟨by first | rfl | (simp [*, Region.wanted, yielded]), ?hyo13⟩) (by assumption) ?resto13
  case hyo13 => (intro w hSw; (try dsimp only at hSw); go_simp <;> with_reducible rfl)
  try simp only [Act.put, List.setIfInBounds_toArray, List.set_cons_zero, List.set_cons_succ]
  refine wpAnyH_ready (rs := [3]) (by kernel_rfl) (by simp) ?_
  refine AllReadyH.cons (o := _) rfl (fun K hK => ?_) AllReadyH.nil
  go_simp
  refine (HIt.out _).mono ?_
  rintro e3 w3 ⟨hb3, rfl⟩
  have p3 : Below W0.heap.size W0 w3 := (Below.refl _ W0).drew.trans hb3
  go_wp2_with fail
  refine hK.out _ _ (HKp.out _ p3) (fun hHeld => ?_)
  clear hK K
  try simp only [Act.put, List.setIfInBounds_toArray, List.set_cons_zero, List.set_cons_succ]
  refine take_d (i := 4) (d := some 17) (v := ?_) rfl rfl (by kernel_rfl) (by kernel_rfl) (by kernel_rfl) (fun _ _ _ h => h) (Or.inl ⟨by first | rfl | (simp [*, Region.wanted, yielded]), ?hyo14⟩) (by assumption) ?resto14
  case hyo14 => (intro w hSw; (try dsimp only at hSw); go_simp <;> with_reducible rfl)
  try simp only [Act.put, List.setIfInBounds_toArray, List.set_cons_zero, List.set_cons_succ]
  refine take_d (i := 5) (d := some 18) (v := undef) rfl rfl (by kernel_rfl) (by kernel_rfl) (by kernel_rfl) (fun _ _ _ h => h) (Or.inr ⟨by first | rfl | (simp [*, Region.wanted, yielded]), rfl⟩) (by assumption) ?resto15
  try simp only [Act.put, List.setIfInBounds_toArray, List.set_cons_zero, List.set_cons_succ]
  refine take_d (i := 6) (d := some 19) (v := undef) rfl rfl (by kernel_rfl) (by kernel_rfl) (by kernel_rfl) (fun _ _ _ h => h) (Or.inr ⟨by first | rfl | (simp [*, Region.wanted, yielded]), rfl⟩) (by assumption) ?resto16
  try simp only [Act.put, List.setIfInBounds_toArray, List.set_cons_zero, List.set_cons_succ]
  refine take_d (i := 7) (d := some 20) (v := undef) rfl rfl (by kernel_rfl) (by kernel_rfl) (by kernel_rfl) (fun _ _ _ h => h) (Or.inr ⟨by first | rfl | (simp [*, Region.wanted, yielded]), rfl⟩) (by assumption) ?resto17
  try simp only [Act.put, List.setIfInBounds_toArray, List.set_cons_zero, List.set_cons_succ]
  refine take_d (i := 8) (d := some 21) (v := undef) rfl rfl (by kernel_rfl) (by kernel_rfl) (by kernel_rfl) (fun _ _ _ h => h) (Or.inr ⟨by first | rfl | (simp [*, Region.wanted, yielded]), rfl⟩) (by assumption) ?resto18
  try simp only [Act.put, List.setIfInBounds_toArray, List.set_cons_zero, List.set_cons_succ]
  refine take_d (i := 9) (d := some 22) (v := undef) rfl rfl (by kernel_rfl) (by kernel_rfl) (by kernel_rfl) (fun _ _ _ h => h) (Or.inr ⟨by first | rfl | (simp [*, Region.wanted, yielded]), rfl⟩) (by assumption) ?resto19
  try simp only [Act.put, List.setIfInBounds_toArray, List.set_cons_zero, List.set_cons_succ]
  refine take_d (i := 10) (d := some 23) (v := undef) rfl rfl (by kernel_rfl) (by kernel_rfl) (by kernel_rfl) (fun _ _ _ h => h) (Or.inr ⟨by first | rfl | (simp [*, Region.wanted, yielded]), rfl⟩) (by assumption) ?resto110
  try simp only [Act.put, List.setIfInBounds_toArray, List.set_cons_zero, List.set_cons_succ]
  refine take_d (i := 11) (d := some 24) (v := ?_) rfl rfl (by kernel_rfl) (by kernel_rfl) (by kernel_rfl) (fun _ _ _ h => h) (Or.inl ⟨by first | rfl | (simp [*, Region.wanted, yielded]), ?hyo111⟩) (by assumption) ?resto111
  case hyo111 => (intro w hSw; (try dsimp only at hSw); go_simp <;> with_reducible rfl)
  try simp only [Act.put, List.setIfInBounds_toArray, List.set_cons_zero, List.set_cons_succ]
  refine take_d (i := 12) (d := some 25) (v := ?_) rfl rfl (by kernel_rfl) (by kernel_rfl) (by kernel_rfl) (fun _ _ _ h => h) (Or.inl ⟨by first | rfl | (simp [*, Region.wanted, yielded]), ?hyo112⟩) (by assumption) ?resto112
  case hyo112 => (intro w hSw; (try dsimp only at hSw); go_simp <;> with_reducible rfl)
  try simp only [Act.put, List.setIfInBounds_toArray, List.set_cons_zero, List.set_cons_succ]
  refine take_d (i := 13) (d := some 26) (v := undef) rfl rfl (by kernel_rfl) (by kernel_rfl) (by kernel_rfl) (fun _ _ _ h => h) (Or.inr ⟨by first | rfl | (simp [*, Region.wanted, yielded]), rfl⟩) (by assumption) ?resto113
  try simp only [Act.put, List.setIfInBounds_toArray, List.set_cons_zero, List.set_cons_succ]
  refine take_d (i := 14) (d := some 27) (v := undef) rfl rfl (by kernel_rfl) (by kernel_rfl) (by kernel_rfl) (fun _ _ _ h => h) (Or.inr ⟨by first | rfl | (simp [*, Region.wanted, yielded]), rfl⟩) (by assumption) ?resto114
  try simp only [Act.put, List.setIfInBounds_toArray, List.set_cons_zero, List.set_cons_succ]
  refine take_d (i := 15) (d := some 28) (v := undef) rfl rfl (by kernel_rfl) (by kernel_rfl) (by kernel_rfl) (fun _ _ _ h => h) (Or.inr ⟨by first | rfl | (simp [*, Region.wanted, yielded]), rfl⟩) (by assumption) ?resto115
  try simp only [Act.put, List.setIfInBounds_toArray, List.set_cons_zero, List.set_cons_succ]
  refine take_d (i := 16) (d := some 29) (v := undef) rfl rfl (by kernel_rfl) (by kernel_rfl) (by kernel_rfl) (fun _ _ _ h => h) (Or.inr ⟨by first | rfl | (simp [*, Region.wanted, yielded]), rfl⟩) (by assumption) ?resto116
  try simp only [Act.put, List.setIfInBounds_toArray, List.set_cons_zero, List.set_cons_succ]
  refine take_d (i := 17) (d := some 30) (v := undef) rfl rfl (by kernel_rfl) (by kernel_rfl) (by kernel_rfl) (fun _ _ _ h => h) (Or.inr ⟨by first | rfl | (simp [*, Region.wanted, yielded]), rfl⟩) (by assumption) ?resto117
  try simp only [Act.put, List.setIfInBounds_toArray, List.set_cons_zero, List.set_cons_succ]
  refine take_d (i := 18) (d := some 31) (v := undef) rfl rfl (by kernel_rfl) (by kernel_rfl) (by kernel_rfl) (fun _ _ _ h => h) (Or.inr ⟨by first | rfl | (simp [*, Region.wanted, yielded]), rfl⟩) (by assumption) ?resto118
  try simp only [Act.put, List.setIfInBounds_toArray, List.set_cons_zero, List.set_cons_succ]
  refine take_d (i := 19) (d := some 32) (v := undef) rfl rfl (by kernel_rfl) (by kernel_rfl) (by kernel_rfl) (fun _ _ _ h => h) (Or.inr ⟨by first | rfl | (simp [*, Region.wanted, yielded]), rfl⟩) (by assumption) ?resto119
  try simp only [Act.put, List.setIfInBounds_toArray, List.set_cons_zero, List.set_cons_succ]
  refine take_d (i := 20) (d := some 33) (v := undef) rfl rfl (by kernel_rfl) (by kernel_rfl) (by kernel_rfl) (fun _ _ _ h => h) (Or.inr ⟨by first | rfl | (simp [*, Region.wanted, yielded]), rfl⟩) (by assumption) ?resto120
  try simp only [Act.put, List.setIfInBounds_toArray, List.set_cons_zero, List.set_cons_succ]
  refine take_d (i := 21) (d := some 34) (v := undef) rfl rfl (by kernel_rfl) (by kernel_rfl) (by kernel_rfl) (fun _ _ _ h => h) (Or.inr ⟨by first | rfl | (simp [*, Region.wanted, yielded]), rfl⟩) (by assumption) ?resto121
  try simp only [Act.put, List.setIfInBounds_toArray, List.set_cons_zero, List.set_cons_succ]
  refine take_d (i := 22) (d := some 35) (v := undef) rfl rfl (by kernel_rfl) (by kernel_rfl) (by kernel_rfl) (fun _ _ _ h => h) (Or.inr ⟨by first | rfl | (simp [*, Region.wanted, yielded]), rfl⟩) (by assumption) ?resto122
  try simp only [Act.put, List.setIfInBounds_toArray, List.set_cons_zero, List.set_cons_succ]
  refine take_d (i := 23) (d := some 36) (v := ?_) rfl rfl (by kernel_rfl) (by kernel_rfl) (by kernel_rfl) (fun _ _ _ h => h) (Or.inl ⟨by first | rfl | (simp [*, Region.wanted, yielded]), ?hyo123⟩) (by assumption) ?resto123
  case hyo123 => (intro w hSw; (try dsimp only at hSw); go_simp <;> with_reducible rfl)
  try simp only [Act.put, List.setIfInBounds_toArray, List.set_cons_zero, List.set_cons_succ]
  refine take_d (i := 24) (d := some 8) (v := ?_) rfl rfl (by kernel_rfl) (by kernel_rfl) (by kernel_rfl) (fun _ _ _ h => h) (Or.inl ⟨by first | rfl | (simp [*, Region.wanted, yielded]), ?hyo124⟩) (by assumption) ?resto124
  case hyo124 => (intro w hSw; (try dsimp only at hSw); go_simp <;> with_reducible rfl)
  try simp only [Act.put, List.setIfInBounds_toArray, List.set_cons_zero, List.set_cons_succ]
  refine wpAnyH_done (by kernel_rfl) ?_ _
  go_simp
  go_wp2
  go_ret
  exact ⟨HB0.out.trans (p3.mono HB0.out.size), rfl⟩

set_option maxRecDepth 100000 in
set_option maxHeartbeats 4000000 in
theorem isRight_o2 (P : Int) (ia : Option Addr) (its : List ItemL) (ic : Nat) (rv : Value) (n : Nat) (p : Int) (k : Nat) (pa : Option Addr) (pl pc : Nat) (w : World) (h : ItemsAt w ia its) (hl : its.length ≤ 20) (hn : n < its.length) (hi : itemsE P 0 its = 0) (hf : k < its.length) (hC : (contL its n).testBit k = false) :
  Calls Try.prog 65 #[.agg #[.int .i64 P, .slice ia its.length ic, rv], .int .i64 n, .agg #[.int .i64 p, .int .i64 (k : Int), .int .i64 (-1)], .slice pa pl pc] w (BoolR w (false)) := by
  have hBx : TwoBk ((w.alloc (.cells #[.int .i64 P, .slice ia its.length ic, rv] 25)).alloc (.cells #[.int .i64 p, .int .i64 (k : Int), .int .i64 (-1)] 53)) w.heap.size P (.slice ia its.length ic) rv (p, (k : Int), -1) := ⟨by go_simp, by go_simp, by go_simp, by go_simp, by go_simp, by go_simp⟩
  have hB0 : Below w.heap.size w ((w.alloc (.cells #[.int .i64 P, .slice ia its.length ic, rv] 25)).alloc (.cells #[.int .i64 p, .int .i64 (k : Int), .int .i64 (-1)] 53)) := ((Below.refl w.heap.size w).alloc (Nat.le_refl _) _).alloc (by simp) _
  have HB0 := hid hB0
  have HBx := hid hBx
  have HCo := hid (fun w' (hb : Below w.heap.size w w') => contained_any P ia its ic rv n w' (h.below hb) hl hn hi)
  have HIt := hid (fun w => isItem_any P ia its.length ic rv (k : Int) w (by omega))
  rw [decide_eq_true (⟨by omega, by omega⟩ : 0 ≤ (k : Int) ∧ (k : Int) < (its.length : Int))] at HIt
  have HHa := hid (fun w hM => has_mask (contL its n) k w hM (by omega))
  rw [hC] at HHa
  clear hC
  clear h hl hi hBx hB0
  go_enter Try.func65, Try.ntmps65
  go_wp2
  generalize ((w.alloc (.cells #[.int .i64 P, .slice ia its.length ic, rv] 25)).alloc (.cells #[.int .i64 p, .int .i64 (k : Int), .int .i64 (-1)] 53)) = W0 at *
  have HKp := hid (fun w' (hb : Below W0.heap.size W0 w') => (show w'.cell? ⟨w.heap.size, 0, none⟩ = some (.int .i64 P) ∧ w'.cell? ⟨w.heap.size, 1, none⟩ = some (.slice ia its.length ic) ∧ w'.cell? ⟨w.heap.size, 2, none⟩ = some (rv) ∧ w'.cell? ⟨w.heap.size + 1, 0, none⟩ = some (.int .i64 p) ∧ w'.cell? ⟨w.heap.size + 1, 1, none⟩ = some (.int .i64 (k : Int)) ∧ w'.cell? ⟨w.heap.size + 1, 2, none⟩ = some (.int .i64 (-1)) ∧ Below W0.heap.size W0 w' from by
    obtain ⟨e0, e1, e2, e3, e4, e5⟩ := HBx.out.below hb
    exact ⟨e0, e1, e2, e3, e4, e5, hb⟩))

  refine wp_region_held_drew (S := (fun w' => w'.cell? ⟨w.heap.size, 0, none⟩ = some (.int .i64 P) ∧ w'.cell? ⟨w.heap.size, 1, none⟩ = some (.slice ia its.length ic) ∧ w'.cell? ⟨w.heap.size, 2, none⟩ = some (rv) ∧ w'.cell? ⟨w.heap.size + 1, 0, none⟩ = some (.int .i64 p) ∧ w'.cell? ⟨w.heap.size + 1, 1, none⟩ = some (.int .i64 (k : Int)) ∧ w'.cell? ⟨w.heap.size + 1, 2, none⟩ = some (.int .i64 (-1)) ∧ Below W0.heap.size W0 w')) (by kernel_rfl) (HKp.out _ ((Below.refl _ W0).drew)) (fun hHeld => ?_)
  refine take_d (i := 0) (d := some 13) (v := ?_) rfl rfl (by kernel_rfl) (by kernel_rfl) (by kernel_rfl) (fun _ _ _ h => h) (Or.inl ⟨by first | rfl | (simp [*, Region.wanted, yielded]), ?hyo21⟩) (by assumption) ?resto21
  case hyo21 => (intro w hSw; (try dsimp only at hSw); go_simp <;> with_reducible rfl)
  try simp only [Act.put, List.setIfInBounds_toArray, List.set_cons_zero, List.set_cons_succ]
  refine take_d (i := 1) (d := some 14) (v := ?_) rfl rfl (by kernel_rfl) (by kernel_rfl) (by kernel_rfl) (fun _ _ _ h => h) (Or.inl ⟨by first | rfl | (simp [*, Region.wanted, yielded]), ?hyo22⟩) (by assumption) ?resto22
  case hyo22 => (intro w hSw; (try dsimp only at hSw); go_simp <;> with_reducible rfl)
  try simp only [Act.put, List.setIfInBounds_toArray, List.set_cons_zero, List.set_cons_succ]
  refine take_d (i := 2) (d := some 15) (v := ?_) rfl rfl (by kernel_rfl) (by kernel_rfl) (by kernel_rfl) (fun _ _ _ h => h) (Or.inl ⟨by first | rfl | (simp [*, Region.wanted, yielded]), ?hyo23⟩) (by assumption) ?resto23
  case hyo23 => (intro w hSw; (try dsimp only at hSw); go_simp <;> with_reducible rfl)
  try simp only [Act.put, List.setIfInBounds_toArray, List.set_cons_zero, List.set_cons_succ]
  refine wpAnyH_ready (rs := [3]) (by kernel_rfl) (by simp) ?_
  refine AllReadyH.cons (o := _) rfl (fun K hK => ?_) AllReadyH.nil
  go_simp
  refine (HIt.out _).mono ?_
  rintro e3 w3 ⟨hb3, rfl⟩
  have p3 : Below W0.heap.size W0 w3 := (Below.refl _ W0).drew.trans hb3
  go_wp2_with fail
  refine hK.out _ _ (HKp.out _ p3) (fun hHeld => ?_)
  clear hK K
  try simp only [Act.put, List.setIfInBounds_toArray, List.set_cons_zero, List.set_cons_succ]
  refine take_d (i := 4) (d := some 17) (v := ?_) rfl rfl (by kernel_rfl) (by kernel_rfl) (by kernel_rfl) (fun _ _ _ h => h) (Or.inl ⟨by first | rfl | (simp [*, Region.wanted, yielded]), ?hyo24⟩) (by assumption) ?resto24
  case hyo24 => (intro w hSw; (try dsimp only at hSw); go_simp <;> with_reducible rfl)
  try simp only [Act.put, List.setIfInBounds_toArray, List.set_cons_zero, List.set_cons_succ]
  refine take_d (i := 5) (d := some 18) (v := ?_) rfl rfl (by kernel_rfl) (by kernel_rfl) (by kernel_rfl) (fun _ _ _ h => h) (Or.inl ⟨by first | rfl | (simp [*, Region.wanted, yielded]), ?hyo25⟩) (by assumption) ?resto25
  case hyo25 => (intro w hSw; (try dsimp only at hSw); go_simp <;> with_reducible rfl)
  try simp only [Act.put, List.setIfInBounds_toArray, List.set_cons_zero, List.set_cons_succ]
  refine take_d (i := 6) (d := some 19) (v := ?_) rfl rfl (by kernel_rfl) (by kernel_rfl) (by kernel_rfl) (fun _ _ _ h => h) (Or.inl ⟨by first | rfl | (simp [*, Region.wanted, yielded]), ?hyo26⟩) (by assumption) ?resto26
  case hyo26 => (intro w hSw; (try dsimp only at hSw); go_simp <;> with_reducible rfl)
  try simp only [Act.put, List.setIfInBounds_toArray, List.set_cons_zero, List.set_cons_succ]
  refine take_d (i := 8) (d := some 21) (v := ?_) rfl rfl (by kernel_rfl) (by kernel_rfl) (by kernel_rfl) (fun _ _ _ h => h) (Or.inl ⟨by first | rfl | (simp [*, Region.wanted, yielded]), ?hyo27⟩) (by assumption) ?resto27
  case hyo27 => (intro w hSw; (try dsimp only at hSw); go_simp <;> with_reducible rfl)
  try simp only [Act.put, List.setIfInBounds_toArray, List.set_cons_zero, List.set_cons_succ]
  refine take_d (i := 9) (d := some 22) (v := ?_) rfl rfl (by kernel_rfl) (by kernel_rfl) (by kernel_rfl) (fun _ _ _ h => h) (Or.inl ⟨by first | rfl | (simp [*, Region.wanted, yielded]), ?hyo28⟩) (by assumption) ?resto28
  case hyo28 => (intro w hSw; (try dsimp only at hSw); go_simp <;> with_reducible rfl)
  try simp only [Act.put, List.setIfInBounds_toArray, List.set_cons_zero, List.set_cons_succ]
  refine wpAnyH_ready (rs := [7]) (by kernel_rfl) (by simp) ?_
  refine AllReadyH.cons (o := _) rfl (fun K hK => ?_) AllReadyH.nil
  go_simp
  refine (HCo.out _ (HB0.out.trans (p3.mono HB0.out.size))).mono ?_
  rintro e7 w7 ⟨hb7, hlt7, rfl⟩
  have p7 : Below W0.heap.size W0 w7 := p3.trans (hb7.mono p3.size)
  have HL7 := hid (show contL its n < 18446744073709551616 by omega)
  clear hlt7
  go_wp2_with fail
  refine hK.out _ _ (HKp.out _ p7) (fun hHeld => ?_)
  clear hK K
  try simp only [Act.put, List.setIfInBounds_toArray, List.set_cons_zero, List.set_cons_succ]
  refine wpAnyH_ready (rs := [10]) (by kernel_rfl) (by simp) ?_
  refine AllReadyH.cons (o := _) rfl (fun K hK => ?_) AllReadyH.nil
  go_simp
  refine (HHa.out _ HL7.out).mono ?_
  rintro e10 w10 ⟨rfl, rfl⟩
  go_wp2_with fail
  refine hK.out _ _ (HKp.out _ p7) (fun hHeld => ?_)
  clear hK K
  try simp only [Act.put, List.setIfInBounds_toArray, List.set_cons_zero, List.set_cons_succ]
  refine take_d (i := 11) (d := some 24) (v := ?_) rfl rfl (by kernel_rfl) (by kernel_rfl) (by kernel_rfl) (fun _ _ _ h => h) (Or.inl ⟨by first | rfl | (simp [*, Region.wanted, yielded]), ?hyo29⟩) (by assumption) ?resto29
  case hyo29 => (intro w hSw; (try dsimp only at hSw); go_simp <;> with_reducible rfl)
  try simp only [Act.put, List.setIfInBounds_toArray, List.set_cons_zero, List.set_cons_succ]
  refine take_d (i := 12) (d := some 25) (v := ?_) rfl rfl (by kernel_rfl) (by kernel_rfl) (by kernel_rfl) (fun _ _ _ h => h) (Or.inl ⟨by first | rfl | (simp [*, Region.wanted, yielded]), ?hyo210⟩) (by assumption) ?resto210
  case hyo210 => (intro w hSw; (try dsimp only at hSw); go_simp <;> with_reducible rfl)
  try simp only [Act.put, List.setIfInBounds_toArray, List.set_cons_zero, List.set_cons_succ]
  refine take_d (i := 13) (d := some 26) (v := undef) rfl rfl (by kernel_rfl) (by kernel_rfl) (by kernel_rfl) (fun _ _ _ h => h) (Or.inr ⟨by first | rfl | (simp [*, Region.wanted, yielded]), rfl⟩) (by assumption) ?resto211
  try simp only [Act.put, List.setIfInBounds_toArray, List.set_cons_zero, List.set_cons_succ]
  refine take_d (i := 14) (d := some 27) (v := undef) rfl rfl (by kernel_rfl) (by kernel_rfl) (by kernel_rfl) (fun _ _ _ h => h) (Or.inr ⟨by first | rfl | (simp [*, Region.wanted, yielded]), rfl⟩) (by assumption) ?resto212
  try simp only [Act.put, List.setIfInBounds_toArray, List.set_cons_zero, List.set_cons_succ]
  refine take_d (i := 15) (d := some 28) (v := undef) rfl rfl (by kernel_rfl) (by kernel_rfl) (by kernel_rfl) (fun _ _ _ h => h) (Or.inr ⟨by first | rfl | (simp [*, Region.wanted, yielded]), rfl⟩) (by assumption) ?resto213
  try simp only [Act.put, List.setIfInBounds_toArray, List.set_cons_zero, List.set_cons_succ]
  refine take_d (i := 16) (d := some 29) (v := undef) rfl rfl (by kernel_rfl) (by kernel_rfl) (by kernel_rfl) (fun _ _ _ h => h) (Or.inr ⟨by first | rfl | (simp [*, Region.wanted, yielded]), rfl⟩) (by assumption) ?resto214
  try simp only [Act.put, List.setIfInBounds_toArray, List.set_cons_zero, List.set_cons_succ]
  refine take_d (i := 17) (d := some 30) (v := undef) rfl rfl (by kernel_rfl) (by kernel_rfl) (by kernel_rfl) (fun _ _ _ h => h) (Or.inr ⟨by first | rfl | (simp [*, Region.wanted, yielded]), rfl⟩) (by assumption) ?resto215
  try simp only [Act.put, List.setIfInBounds_toArray, List.set_cons_zero, List.set_cons_succ]
  refine take_d (i := 18) (d := some 31) (v := undef) rfl rfl (by kernel_rfl) (by kernel_rfl) (by kernel_rfl) (fun _ _ _ h => h) (Or.inr ⟨by first | rfl | (simp [*, Region.wanted, yielded]), rfl⟩) (by assumption) ?resto216
  try simp only [Act.put, List.setIfInBounds_toArray, List.set_cons_zero, List.set_cons_succ]
  refine take_d (i := 19) (d := some 32) (v := undef) rfl rfl (by kernel_rfl) (by kernel_rfl) (by kernel_rfl) (fun _ _ _ h => h) (Or.inr ⟨by first | rfl | (simp [*, Region.wanted, yielded]), rfl⟩) (by assumption) ?resto217
  try simp only [Act.put, List.setIfInBounds_toArray, List.set_cons_zero, List.set_cons_succ]
  refine take_d (i := 20) (d := some 33) (v := undef) rfl rfl (by kernel_rfl) (by kernel_rfl) (by kernel_rfl) (fun _ _ _ h => h) (Or.inr ⟨by first | rfl | (simp [*, Region.wanted, yielded]), rfl⟩) (by assumption) ?resto218
  try simp only [Act.put, List.setIfInBounds_toArray, List.set_cons_zero, List.set_cons_succ]
  refine take_d (i := 21) (d := some 34) (v := undef) rfl rfl (by kernel_rfl) (by kernel_rfl) (by kernel_rfl) (fun _ _ _ h => h) (Or.inr ⟨by first | rfl | (simp [*, Region.wanted, yielded]), rfl⟩) (by assumption) ?resto219
  try simp only [Act.put, List.setIfInBounds_toArray, List.set_cons_zero, List.set_cons_succ]
  refine take_d (i := 22) (d := some 35) (v := undef) rfl rfl (by kernel_rfl) (by kernel_rfl) (by kernel_rfl) (fun _ _ _ h => h) (Or.inr ⟨by first | rfl | (simp [*, Region.wanted, yielded]), rfl⟩) (by assumption) ?resto220
  try simp only [Act.put, List.setIfInBounds_toArray, List.set_cons_zero, List.set_cons_succ]
  refine take_d (i := 23) (d := some 36) (v := ?_) rfl rfl (by kernel_rfl) (by kernel_rfl) (by kernel_rfl) (fun _ _ _ h => h) (Or.inl ⟨by first | rfl | (simp [*, Region.wanted, yielded]), ?hyo221⟩) (by assumption) ?resto221
  case hyo221 => (intro w hSw; (try dsimp only at hSw); go_simp <;> with_reducible rfl)
  try simp only [Act.put, List.setIfInBounds_toArray, List.set_cons_zero, List.set_cons_succ]
  refine take_d (i := 24) (d := some 8) (v := ?_) rfl rfl (by kernel_rfl) (by kernel_rfl) (by kernel_rfl) (fun _ _ _ h => h) (Or.inl ⟨by first | rfl | (simp [*, Region.wanted, yielded]), ?hyo222⟩) (by assumption) ?resto222
  case hyo222 => (intro w hSw; (try dsimp only at hSw); go_simp <;> with_reducible rfl)
  try simp only [Act.put, List.setIfInBounds_toArray, List.set_cons_zero, List.set_cons_succ]
  refine wpAnyH_done (by kernel_rfl) ?_ _
  go_simp
  go_wp2
  go_ret
  exact ⟨HB0.out.trans (p7.mono HB0.out.size), rfl⟩

set_option maxRecDepth 100000 in
set_option maxHeartbeats 4000000 in
theorem isRight_o3 (P : Int) (ia : Option Addr) (its : List ItemL) (ic : Nat) (rv : Value) (n : Nat) (p : Int) (k : Nat) (pa : Option Addr) (pl pc : Nat) (w : World) (h : ItemsAt w ia its) (hl : its.length ≤ 20) (hn : n < its.length) (hi : itemsE P 0 its = 0) (hf : k < its.length) (hC : (contL its n).testBit k = true) :
  Calls Try.prog 65 #[.agg #[.int .i64 P, .slice ia its.length ic, rv], .int .i64 n, .agg #[.int .i64 p, .int .i64 (k : Int), .int .i64 (-1)], .slice pa pl pc] w (BoolR w (decide (p ∈ hsL its k))) := by
  have hBx : TwoBk ((w.alloc (.cells #[.int .i64 P, .slice ia its.length ic, rv] 25)).alloc (.cells #[.int .i64 p, .int .i64 (k : Int), .int .i64 (-1)] 53)) w.heap.size P (.slice ia its.length ic) rv (p, (k : Int), -1) := ⟨by go_simp, by go_simp, by go_simp, by go_simp, by go_simp, by go_simp⟩
  have hB0 : Below w.heap.size w ((w.alloc (.cells #[.int .i64 P, .slice ia its.length ic, rv] 25)).alloc (.cells #[.int .i64 p, .int .i64 (k : Int), .int .i64 (-1)] 53)) := ((Below.refl w.heap.size w).alloc (Nat.le_refl _) _).alloc (by simp) _
  have HB0 := hid hB0
  have HBx := hid hBx
  have HCo := hid (fun w' (hb : Below w.heap.size w w') => contained_any P ia its ic rv n w' (h.below hb) hl hn hi)
  have HIt := hid (fun w => isItem_any P ia its.length ic rv (k : Int) w (by omega))
  rw [decide_eq_true (⟨by omega, by omega⟩ : 0 ≤ (k : Int) ∧ (k : Int) < (its.length : Int))] at HIt
  have HHa := hid (fun w hM => has_mask (contL its n) k w hM (by omega))
  rw [hC] at HHa
  clear hC
  rcases h.at_ with e | ⟨b, off, rfl, hc⟩
  · rw [e] at hf; simp at hf
  obtain ⟨A, c, B, d, c0, c1, hA, hB⟩ := hc k hf
  have hk0 : (0 : Int) ≤ (k : Int) := by omega
  have hk1 : (k : Int) < (its.length : Int) := by omega
  have HCt := hid (fun w' (hb : Below w.heap.size w w') => containsI_any B _ d p w' (hB.below hb))
  have HH : hsL its k = (its[k]?.getD ([], [])).2 := rfl
  have HHh := hid HH
  clear hc hA hB c0 HH
  generalize (its[k]?.getD ([], [])).2 = xs at *
  have HC1 := hid c1
  clear c1
  generalize hdv : decide (p ∈ xs) = dv at *
  have HDv := hid hdv
  clear hdv
  clear h hl hi hBx hB0
  go_enter Try.func65, Try.ntmps65
  go_wp2
  generalize ((w.alloc (.cells #[.int .i64 P, .slice (some ⟨b, off, none⟩) its.length ic, rv] 25)).alloc (.cells #[.int .i64 p, .int .i64 (k : Int), .int .i64 (-1)] 53)) = W0 at *
  have HKp := hid (fun w' (hb : Below W0.heap.size W0 w') => (show w'.cell? ⟨w.heap.size, 0, none⟩ = some (.int .i64 P) ∧ w'.cell? ⟨w.heap.size, 1, none⟩ = some (.slice (some ⟨b, off, none⟩) its.length ic) ∧ w'.cell? ⟨w.heap.size, 2, none⟩ = some (rv) ∧ w'.cell? ⟨w.heap.size + 1, 0, none⟩ = some (.int .i64 p) ∧ w'.cell? ⟨w.heap.size + 1, 1, none⟩ = some (.int .i64 (k : Int)) ∧ w'.cell? ⟨w.heap.size + 1, 2, none⟩ = some (.int .i64 (-1)) ∧ Below W0.heap.size W0 w' ∧ w'.cell? ⟨b, off + k * 2 + 1, none⟩ = some (.slice B xs.length d) from by
    obtain ⟨e0, e1, e2, e3, e4, e5⟩ := HBx.out.below hb
    exact ⟨e0, e1, e2, e3, e4, e5, hb, ((HB0.out.trans (hb.mono HB0.out.size)).cell (cell_lt HC1.out)).trans HC1.out⟩))

  refine wp_region_held_drew (S := (fun w' => w'.cell? ⟨w.heap.size, 0, none⟩ = some (.int .i64 P) ∧ w'.cell? ⟨w.heap.size, 1, none⟩ = some (.slice (some ⟨b, off, none⟩) its.length ic) ∧ w'.cell? ⟨w.heap.size, 2, none⟩ = some (rv) ∧ w'.cell? ⟨w.heap.size + 1, 0, none⟩ = some (.int .i64 p) ∧ w'.cell? ⟨w.heap.size + 1, 1, none⟩ = some (.int .i64 (k : Int)) ∧ w'.cell? ⟨w.heap.size + 1, 2, none⟩ = some (.int .i64 (-1)) ∧ Below W0.heap.size W0 w' ∧ w'.cell? ⟨b, off + k * 2 + 1, none⟩ = some (.slice B xs.length d))) (by kernel_rfl) (HKp.out _ ((Below.refl _ W0).drew)) (fun hHeld => ?_)
  refine take_d (i := 0) (d := some 13) (v := ?_) rfl rfl (by kernel_rfl) (by kernel_rfl) (by kernel_rfl) (fun _ _ _ h => h) (Or.inl ⟨by first | rfl | (simp [*, Region.wanted, yielded]), ?hyo31⟩) (by assumption) ?resto31
  case hyo31 => (intro w hSw; (try dsimp only at hSw); go_simp <;> with_reducible rfl)
  try simp only [Act.put, List.setIfInBounds_toArray, List.set_cons_zero, List.set_cons_succ]
  refine take_d (i := 1) (d := some 14) (v := ?_) rfl rfl (by kernel_rfl) (by kernel_rfl) (by kernel_rfl) (fun _ _ _ h => h) (Or.inl ⟨by first | rfl | (simp [*, Region.wanted, yielded]), ?hyo32⟩) (by assumption) ?resto32
  case hyo32 => (intro w hSw; (try dsimp only at hSw); go_simp <;> with_reducible rfl)
  try simp only [Act.put, List.setIfInBounds_toArray, List.set_cons_zero, List.set_cons_succ]
  refine take_d (i := 2) (d := some 15) (v := ?_) rfl rfl (by kernel_rfl) (by kernel_rfl) (by kernel_rfl) (fun _ _ _ h => h) (Or.inl ⟨by first | rfl | (simp [*, Region.wanted, yielded]), ?hyo33⟩) (by assumption) ?resto33
  case hyo33 => (intro w hSw; (try dsimp only at hSw); go_simp <;> with_reducible rfl)
  try simp only [Act.put, List.setIfInBounds_toArray, List.set_cons_zero, List.set_cons_succ]
  refine wpAnyH_ready (rs := [3]) (by kernel_rfl) (by simp) ?_
  refine AllReadyH.cons (o := _) rfl (fun K hK => ?_) AllReadyH.nil
  go_simp
  refine (HIt.out _).mono ?_
  rintro e3 w3 ⟨hb3, rfl⟩
  have p3 : Below W0.heap.size W0 w3 := (Below.refl _ W0).drew.trans hb3
  go_wp2_with fail
  refine hK.out _ _ (HKp.out _ p3) (fun hHeld => ?_)
  clear hK K
  try simp only [Act.put, List.setIfInBounds_toArray, List.set_cons_zero, List.set_cons_succ]
  refine take_d (i := 4) (d := some 17) (v := ?_) rfl rfl (by kernel_rfl) (by kernel_rfl) (by kernel_rfl) (fun _ _ _ h => h) (Or.inl ⟨by first | rfl | (simp [*, Region.wanted, yielded]), ?hyo34⟩) (by assumption) ?resto34
  case hyo34 => (intro w hSw; (try dsimp only at hSw); go_simp <;> with_reducible rfl)
  try simp only [Act.put, List.setIfInBounds_toArray, List.set_cons_zero, List.set_cons_succ]
  refine take_d (i := 5) (d := some 18) (v := ?_) rfl rfl (by kernel_rfl) (by kernel_rfl) (by kernel_rfl) (fun _ _ _ h => h) (Or.inl ⟨by first | rfl | (simp [*, Region.wanted, yielded]), ?hyo35⟩) (by assumption) ?resto35
  case hyo35 => (intro w hSw; (try dsimp only at hSw); go_simp <;> with_reducible rfl)
  try simp only [Act.put, List.setIfInBounds_toArray, List.set_cons_zero, List.set_cons_succ]
  refine take_d (i := 6) (d := some 19) (v := ?_) rfl rfl (by kernel_rfl) (by kernel_rfl) (by kernel_rfl) (fun _ _ _ h => h) (Or.inl ⟨by first | rfl | (simp [*, Region.wanted, yielded]), ?hyo36⟩) (by assumption) ?resto36
  case hyo36 => (intro w hSw; (try dsimp only at hSw); go_simp <;> with_reducible rfl)
  try simp only [Act.put, List.setIfInBounds_toArray, List.set_cons_zero, List.set_cons_succ]
  refine take_d (i := 8) (d := some 21) (v := ?_) rfl rfl (by kernel_rfl) (by kernel_rfl) (by kernel_rfl) (fun _ _ _ h => h) (Or.inl ⟨by first | rfl | (simp [*, Region.wanted, yielded]), ?hyo37⟩) (by assumption) ?resto37
  case hyo37 => (intro w hSw; (try dsimp only at hSw); go_simp <;> with_reducible rfl)
  try simp only [Act.put, List.setIfInBounds_toArray, List.set_cons_zero, List.set_cons_succ]
  refine take_d (i := 9) (d := some 22) (v := ?_) rfl rfl (by kernel_rfl) (by kernel_rfl) (by kernel_rfl) (fun _ _ _ h => h) (Or.inl ⟨by first | rfl | (simp [*, Region.wanted, yielded]), ?hyo38⟩) (by assumption) ?resto38
  case hyo38 => (intro w hSw; (try dsimp only at hSw); go_simp <;> with_reducible rfl)
  try simp only [Act.put, List.setIfInBounds_toArray, List.set_cons_zero, List.set_cons_succ]
  refine wpAnyH_ready (rs := [7]) (by kernel_rfl) (by simp) ?_
  refine AllReadyH.cons (o := _) rfl (fun K hK => ?_) AllReadyH.nil
  go_simp
  refine (HCo.out _ (HB0.out.trans (p3.mono HB0.out.size))).mono ?_
  rintro e7 w7 ⟨hb7, hlt7, rfl⟩
  have p7 : Below W0.heap.size W0 w7 := p3.trans (hb7.mono p3.size)
  have HL7 := hid (show contL its n < 18446744073709551616 by omega)
  clear hlt7
  go_wp2_with fail
  refine hK.out _ _ (HKp.out _ p7) (fun hHeld => ?_)
  clear hK K
  try simp only [Act.put, List.setIfInBounds_toArray, List.set_cons_zero, List.set_cons_succ]
  refine wpAnyH_ready (rs := [10]) (by kernel_rfl) (by simp) ?_
  refine AllReadyH.cons (o := _) rfl (fun K hK => ?_) AllReadyH.nil
  go_simp
  refine (HHa.out _ HL7.out).mono ?_
  rintro e10 w10 ⟨rfl, rfl⟩
  go_wp2_with fail
  refine hK.out _ _ (HKp.out _ p7) (fun hHeld => ?_)
  clear hK K
  try simp only [Act.put, List.setIfInBounds_toArray, List.set_cons_zero, List.set_cons_succ]
  refine take_d (i := 11) (d := some 24) (v := ?_) rfl rfl (by kernel_rfl) (by kernel_rfl) (by kernel_rfl) (fun _ _ _ h => h) (Or.inl ⟨by first | rfl | (simp [*, Region.wanted, yielded]), ?hyo39⟩) (by assumption) ?resto39
  case hyo39 => (intro w hSw; (try dsimp only at hSw); go_simp <;> with_reducible rfl)
  try simp only [Act.put, List.setIfInBounds_toArray, List.set_cons_zero, List.set_cons_succ]
  refine take_d (i := 12) (d := some 25) (v := ?_) rfl rfl (by kernel_rfl) (by kernel_rfl) (by kernel_rfl) (fun _ _ _ h => h) (Or.inl ⟨by first | rfl | (simp [*, Region.wanted, yielded]), ?hyo310⟩) (by assumption) ?resto310
  case hyo310 => (intro w hSw; (try dsimp only at hSw); go_simp <;> with_reducible rfl)
  try simp only [Act.put, List.setIfInBounds_toArray, List.set_cons_zero, List.set_cons_succ]
  refine take_d (i := 13) (d := some 26) (v := ?_) rfl rfl (by kernel_rfl) (by kernel_rfl) (by kernel_rfl) (fun _ _ _ h => h) (Or.inl ⟨by first | rfl | (simp [*, Region.wanted, yielded]), ?hyo311⟩) (by assumption) ?resto311
  case hyo311 => (intro w hSw; (try dsimp only at hSw); go_simp <;> with_reducible rfl)
  try simp only [Act.put, List.setIfInBounds_toArray, List.set_cons_zero, List.set_cons_succ]
  refine take_d (i := 14) (d := some 27) (v := ?_) rfl rfl (by kernel_rfl) (by kernel_rfl) (by kernel_rfl) (fun _ _ _ h => h) (Or.inl ⟨by first | rfl | (simp [*, Region.wanted, yielded]), ?hyo312⟩) (by assumption) ?resto312
  case hyo312 => (intro w hSw; (try dsimp only at hSw); go_simp <;> with_reducible rfl)
  try simp only [Act.put, List.setIfInBounds_toArray, List.set_cons_zero, List.set_cons_succ]
  refine take_d (i := 15) (d := some 28) (v := ?_) rfl rfl (by kernel_rfl) (by kernel_rfl) (by kernel_rfl) (fun _ _ _ h => h) (Or.inl ⟨by first | rfl | (simp [*, Region.wanted, yielded]), ?hyo313⟩) (by assumption) ?resto313
  case hyo313 => (intro w hSw; (try dsimp only at hSw); go_simp <;> with_reducible rfl)
  try simp only [Act.put, List.setIfInBounds_toArray, List.set_cons_zero, List.set_cons_succ]
  refine take_d (i := 16) (d := some 29) (v := ?_) rfl rfl (by kernel_rfl) (by kernel_rfl) (by kernel_rfl) (fun _ _ _ h => h) (Or.inl ⟨by first | rfl | (simp [*, Region.wanted, yielded]), ?hyo314⟩) (by assumption) ?resto314
  case hyo314 => (intro w hSw; (try dsimp only at hSw); go_simp <;> with_reducible rfl)
  try simp only [Act.put, List.setIfInBounds_toArray, List.set_cons_zero, List.set_cons_succ]
  refine take_d (i := 17) (d := some 30) (v := ?_) rfl rfl (by kernel_rfl) (by kernel_rfl) (by kernel_rfl) (fun _ _ _ h => h) (Or.inl ⟨by first | rfl | (simp [*, Region.wanted, yielded]), ?hyo315⟩) (by assumption) ?resto315
  case hyo315 => (intro w hSw; (try dsimp only at hSw); go_simp <;> with_reducible rfl)
  try simp only [Act.put, List.setIfInBounds_toArray, List.set_cons_zero, List.set_cons_succ]
  refine take_d (i := 18) (d := some 31) (v := ?_) rfl rfl (by kernel_rfl) (by kernel_rfl) (by kernel_rfl) (fun _ _ _ h => h) (Or.inl ⟨by first | rfl | (simp [*, Region.wanted, yielded]), ?hyo316⟩) (by assumption) ?resto316
  case hyo316 => (intro w hSw; (try dsimp only at hSw); go_simp <;> with_reducible rfl)
  try simp only [Act.put, List.setIfInBounds_toArray, List.set_cons_zero, List.set_cons_succ]
  refine take_d (i := 19) (d := some 32) (v := ?_) rfl rfl (by kernel_rfl) (by kernel_rfl) (by kernel_rfl) (fun _ _ _ h => h) (Or.inl ⟨by first | rfl | (simp [*, Region.wanted, yielded]), ?hyo317⟩) (by assumption) ?resto317
  case hyo317 => (intro w hSw; (try dsimp only at hSw); go_simp <;> with_reducible rfl)
  try simp only [Act.put, List.setIfInBounds_toArray, List.set_cons_zero, List.set_cons_succ]
  refine take_d (i := 20) (d := some 33) (v := ?_) rfl rfl (by kernel_rfl) (by kernel_rfl) (by kernel_rfl) (fun _ _ _ h => h) (Or.inl ⟨by first | rfl | (simp [*, Region.wanted, yielded]), ?hyo318⟩) (by assumption) ?resto318
  case hyo318 => (intro w hSw; (try dsimp only at hSw); go_simp <;> with_reducible rfl)
  try simp only [Act.put, List.setIfInBounds_toArray, List.set_cons_zero, List.set_cons_succ]
  refine take_d (i := 21) (d := some 34) (v := ?_) rfl rfl (by kernel_rfl) (by kernel_rfl) (by kernel_rfl) (fun _ _ _ h => h) (Or.inl ⟨by first | rfl | (simp [*, Region.wanted, yielded]), ?hyo319⟩) (by assumption) ?resto319
  case hyo319 => (intro w hSw; (try dsimp only at hSw); go_simp <;> with_reducible rfl)
  try simp only [Act.put, List.setIfInBounds_toArray, List.set_cons_zero, List.set_cons_succ]
  refine wpAnyH_ready (rs := [22]) (by kernel_rfl) (by simp) ?_
  refine AllReadyH.cons (o := _) rfl (fun K hK => ?_) AllReadyH.nil
  go_simp
  refine (HCt.out _ (HB0.out.trans (p7.mono HB0.out.size))).mono ?_
  rintro e22 w22 ⟨rfl, rfl⟩
  go_wp2_with fail
  refine hK.out _ _ (HKp.out _ p7) (fun hHeld => ?_)
  clear hK K
  try simp only [Act.put, List.setIfInBounds_toArray, List.set_cons_zero, List.set_cons_succ]
  refine take_d (i := 23) (d := some 36) (v := ?_) rfl rfl (by kernel_rfl) (by kernel_rfl) (by kernel_rfl) (fun _ _ _ h => h) (Or.inl ⟨by first | rfl | (simp [*, Region.wanted, yielded]), ?hyo320⟩) (by assumption) ?resto320
  case hyo320 => (intro w hSw; (try dsimp only at hSw); go_simp <;> with_reducible rfl)
  try simp only [Act.put, List.setIfInBounds_toArray, List.set_cons_zero, List.set_cons_succ]
  refine take_d (i := 24) (d := some 8) (v := ?_) rfl rfl (by kernel_rfl) (by kernel_rfl) (by kernel_rfl) (fun _ _ _ h => h) (Or.inl ⟨by first | rfl | (simp [*, Region.wanted, yielded]), ?hyo321⟩) (by assumption) ?resto321
  case hyo321 => (intro w hSw; (try dsimp only at hSw); go_simp <;> with_reducible rfl)
  try simp only [Act.put, List.setIfInBounds_toArray, List.set_cons_zero, List.set_cons_succ]
  refine wpAnyH_done (by kernel_rfl) ?_ _
  go_simp
  go_wp2
  go_ret
  exact ⟨HB0.out.trans (p7.mono HB0.out.size), by rw [HHh.out, HDv.out]; rfl⟩

set_option maxRecDepth 100000 in
set_option maxHeartbeats 4000000 in
theorem isRight_r1 (P : Int) (ia : Option Addr) (its : List ItemL) (ic : Nat) (ra : Option Addr) (rls : List RuleL) (rc : Nat) (n : Nat) (p : Int) (f q : Int) (pa : Option Addr) (ear : List StepL) (pc : Nat) (w : World) (h : RulesAt w ra rls) (hs : StepsAt w pa ear) (ho : StepsOk 10 ear) (hr : rulesE P rls = 0) (hP : P ≤ 10) (hq : q ≠ -1) (hf : f ≠ -1) :
  Calls Try.prog 65 #[.agg #[.int .i64 P, .slice ia its.length ic, .slice ra rls.length rc], .int .i64 n, .agg #[.int .i64 p, .int .i64 f, .int .i64 q], .slice pa ear.length pc] w (BoolR w (false)) := by
  have hB0 : Below w.heap.size w ((w.alloc (.cells #[.int .i64 P, .slice ia its.length ic, .slice ra rls.length rc] 25)).alloc (.cells #[.int .i64 p, .int .i64 f, .int .i64 q] 53)) := ((Below.refl w.heap.size w).alloc (Nat.le_refl _) _).alloc (by simp) _
  have HB0 := hid hB0
  have hq1 : (q == -1) = false := by simpa using hq
  have hf1 : (f != -1) = true := by simpa using hf
  clear hq hf h hs ho hr hB0
  go_enter Try.func65, Try.ntmps65
  go_wp2
  go_ret
  exact ⟨HB0.out, rfl⟩

set_option maxRecDepth 100000 in
set_option maxHeartbeats 4000000 in
theorem isRight_r2 (P : Int) (ia : Option Addr) (its : List ItemL) (ic : Nat) (ra : Option Addr) (rls : List RuleL) (rc : Nat) (n : Nat) (p : Int) (q : Int) (pa : Option Addr) (ear : List StepL) (pc : Nat) (w : World) (h : RulesAt w ra rls) (hs : StepsAt w pa ear) (ho : StepsOk 10 ear) (hr : rulesE P rls = 0) (hP : P ≤ 10) (hq : q ≠ -1) (hq0 : q < 0 ∨ (rls.length : Int) ≤ q) :
  Calls Try.prog 65 #[.agg #[.int .i64 P, .slice ia its.length ic, .slice ra rls.length rc], .int .i64 n, .agg #[.int .i64 p, .int .i64 (-1), .int .i64 q], .slice pa ear.length pc] w (BoolR w (false)) := by
  have hB0 : Below w.heap.size w ((w.alloc (.cells #[.int .i64 P, .slice ia its.length ic, .slice ra rls.length rc] 25)).alloc (.cells #[.int .i64 p, .int .i64 (-1), .int .i64 q] 53)) := ((Below.refl w.heap.size w).alloc (Nat.le_refl _) _).alloc (by simp) _
  have HB0 := hid hB0
  have hq1 : (q == -1) = false := by simpa using hq
  have hlen := h.len
  clear hq h hs ho hr hB0
  by_cases hq2 : q < 0
  · clear hq0
    go_enter Try.func65, Try.ntmps65
    go_wp2
    go_ret
    exact ⟨HB0.out, rfl⟩
  · have hq3 : (rls.length : Int) ≤ q := by omega
    have hq4 : 0 ≤ q := by omega
    clear hq0 hq2
    go_enter Try.func65, Try.ntmps65
    go_wp2
    go_ret
    exact ⟨HB0.out, rfl⟩

set_option maxRecDepth 100000 in
set_option maxHeartbeats 4000000 in
theorem isRight_r3 (P : Int) (ia : Option Addr) (its : List ItemL) (ic : Nat) (ra : Option Addr) (rls : List RuleL) (rc : Nat) (n : Nat) (p : Int) (k : Nat) (pa : Option Addr) (ear : List StepL) (pc : Nat) (w : World) (h : RulesAt w ra rls) (hs : StepsAt w pa ear) (ho : StepsOk 10 ear) (hr : rulesE P rls = 0) (hP : P ≤ 10) (hk : k < rls.length) (ht : (rlAt rls k).2 ≠ p) :
  Calls Try.prog 65 #[.agg #[.int .i64 P, .slice ia its.length ic, .slice ra rls.length rc], .int .i64 n, .agg #[.int .i64 p, .int .i64 (-1), .int .i64 (k : Int)], .slice pa ear.length pc] w (BoolR w (false)) := by
  have hB0 : Below w.heap.size w ((w.alloc (.cells #[.int .i64 P, .slice ia its.length ic, .slice ra rls.length rc] 25)).alloc (.cells #[.int .i64 p, .int .i64 (-1), .int .i64 (k : Int)] 53)) := ((Below.refl w.heap.size w).alloc (Nat.le_refl _) _).alloc (by simp) _
  have HB0 := hid hB0
  have hq1 : ((k : Int) == -1) = false := by first | (simp; done) | (simp; omega)
  have hlen := h.len
  have hk0 : (0 : Int) ≤ (k : Int) := by omega
  have hk1 : (k : Int) < (rls.length : Int) := by omega
  have hpm := propsL_lt 10 ear (fun s hh => by have := ho s hh; omega)
  have HPo := hid (fun w' (hb : Below w.heap.size w w') => propsOf_any pa ear pc w' (hs.below hb) (fun s hh => ⟨(ho s hh).1, by have := (ho s hh).2; omega⟩))
  rcases h.at_ with e | ⟨b, off, rfl, hc⟩
  · rw [e] at hk; simp at hk
  obtain ⟨A, c, c0, c1, hA, hbd⟩ := hc k hk
  have hm := (rulesE_ok P rls hr k hk)
  have hsm : Small 64 (rls[k]?.getD ([], 0)).1 := fun x hx => by have := isSetFrom_ge _ _ _ hm.1 x hx; omega
  have HHa := hid (fun w' (hb : Below w.heap.size w w') => hasAll_mask (propsL ear) A _ c w' (hA.below hb) hsm (by omega))
  have hrl : rlAt rls k = rls[k]?.getD ([], 0) := rfl
  have HRl := hid hrl
  have HSm := hid (subB_iff _ (propsL ear) hsm (by omega))
  clear hm hsm hA hc hpm hrl h hs ho hr
  generalize rls[k]?.getD ([], 0) = r at *
  obtain ⟨xs, t⟩ := r
  dsimp only at c0 c1 hbd HHa HSm
  generalize propsL ear = M at *
  have htp : (t == p) = false := by rw [HRl.out] at ht; simpa using ht
  clear ht
  have hbl := cell_lt c0
  go_enter Try.func65, Try.ntmps65
  go_upto_region 6 with (fail)
  have hB1 : Below w.heap.size w ((((w.alloc (.cells #[.int .i64 P, .slice ia its.length ic, .slice (some ⟨b, off, none⟩) rls.length rc] 25)).alloc (.cells #[.int .i64 p, .int .i64 (-1), .int .i64 (k : Int)] 53))).alloc (.cells #[.slice A xs.length c, .int .i64 t] 55)) := (HB0.out).alloc (by simp; omega) _
  have HB1 := hid hB1
  have d0 : ((((w.alloc (.cells #[.int .i64 P, .slice ia its.length ic, .slice (some ⟨b, off, none⟩) rls.length rc] 25)).alloc (.cells #[.int .i64 p, .int .i64 (-1), .int .i64 (k : Int)] 53))).alloc (.cells #[.slice A xs.length c, .int .i64 t] 55)).cell? ⟨w.heap.size + 2, 0, none⟩ = some (.slice A xs.length c) := by go_simp
  have d1 : ((((w.alloc (.cells #[.int .i64 P, .slice ia its.length ic, .slice (some ⟨b, off, none⟩) rls.length rc] 25)).alloc (.cells #[.int .i64 p, .int .i64 (-1), .int .i64 (k : Int)] 53))).alloc (.cells #[.slice A xs.length c, .int .i64 t] 55)).cell? ⟨w.heap.size + 2, 1, none⟩ = some (.int .i64 t) := by go_simp
  have d2 : ((((w.alloc (.cells #[.int .i64 P, .slice ia its.length ic, .slice (some ⟨b, off, none⟩) rls.length rc] 25)).alloc (.cells #[.int .i64 p, .int .i64 (-1), .int .i64 (k : Int)] 53))).alloc (.cells #[.slice A xs.length c, .int .i64 t] 55)).cell? ⟨w.heap.size + 1, 0, none⟩ = some (.int .i64 p) := by go_simp
  clear hB0 hB1
  generalize (((w.alloc (.cells #[.int .i64 P, .slice ia its.length ic, .slice (some ⟨b, off, none⟩) rls.length rc] 25)).alloc (.cells #[.int .i64 p, .int .i64 (-1), .int .i64 (k : Int)] 53))).alloc (.cells #[.slice A xs.length c, .int .i64 t] 55) = W1 at *
  have HKp := hid (fun w' (hb : Below W1.heap.size W1 w') => (show w'.cell? ⟨w.heap.size + 2, 0, none⟩ = some (.slice A xs.length c) ∧ w'.cell? ⟨w.heap.size + 2, 1, none⟩ = some (.int .i64 t) ∧ w'.cell? ⟨w.heap.size + 1, 0, none⟩ = some (.int .i64 p) ∧ Below W1.heap.size W1 w' from
    ⟨(hb.cell (cell_lt d0)).trans d0, (hb.cell (cell_lt d1)).trans d1, (hb.cell (cell_lt d2)).trans d2, hb⟩))

  refine wp_region_held_drew (S := (fun w' => w'.cell? ⟨w.heap.size + 2, 0, none⟩ = some (.slice A xs.length c) ∧ w'.cell? ⟨w.heap.size + 2, 1, none⟩ = some (.int .i64 t) ∧ w'.cell? ⟨w.heap.size + 1, 0, none⟩ = some (.int .i64 p) ∧ Below W1.heap.size W1 w')) (by kernel_rfl) (HKp.out _ ((Below.refl _ W1).drew)) (fun hHeld => ?_)
  refine take_d (i := 0) (d := some 59) (v := ?_) rfl rfl (by kernel_rfl) (by kernel_rfl) (by kernel_rfl) (fun _ _ _ h => h) (Or.inl ⟨by first | rfl | (simp [*, Region.wanted, yielded]), ?hyr31⟩) (by assumption) ?restr31
  case hyr31 => (intro w hSw; (try dsimp only at hSw); go_simp <;> with_reducible rfl)
  try simp only [Act.put, List.setIfInBounds_toArray, List.set_cons_zero, List.set_cons_succ]
  refine take_d (i := 1) (d := some 60) (v := ?_) rfl rfl (by kernel_rfl) (by kernel_rfl) (by kernel_rfl) (fun _ _ _ h => h) (Or.inl ⟨by first | rfl | (simp [*, Region.wanted, yielded]), ?hyr32⟩) (by assumption) ?restr32
  case hyr32 => (intro w hSw; (try dsimp only at hSw); go_simp <;> with_reducible rfl)
  try simp only [Act.put, List.setIfInBounds_toArray, List.set_cons_zero, List.set_cons_succ]
  refine take_d (i := 2) (d := some 61) (v := ?_) rfl rfl (by kernel_rfl) (by kernel_rfl) (by kernel_rfl) (fun _ _ _ h => h) (Or.inl ⟨by first | rfl | (simp [*, Region.wanted, yielded]), ?hyr33⟩) (by assumption) ?restr33
  case hyr33 => (intro w hSw; (try dsimp only at hSw); go_simp <;> with_reducible rfl)
  try simp only [Act.put, List.setIfInBounds_toArray, List.set_cons_zero, List.set_cons_succ]
  refine take_d (i := 3) (d := some 62) (v := ?_) rfl rfl (by kernel_rfl) (by kernel_rfl) (by kernel_rfl) (fun _ _ _ h => h) (Or.inl ⟨by first | rfl | (simp [*, Region.wanted, yielded]), ?hyr34⟩) (by assumption) ?restr34
  case hyr34 => (intro w hSw; (try dsimp only at hSw); go_simp <;> with_reducible rfl)
  try simp only [Act.put, List.setIfInBounds_toArray, List.set_cons_zero, List.set_cons_succ]
  refine take_d (i := 4) (d := some 63) (v := ?_) rfl rfl (by kernel_rfl) (by kernel_rfl) (by kernel_rfl) (fun _ _ _ h => h) (Or.inl ⟨by first | rfl | (simp [*, Region.wanted, yielded]), ?hyr35⟩) (by assumption) ?restr35
  case hyr35 => (intro w hSw; (try dsimp only at hSw); go_simp <;> with_reducible rfl)
  try simp only [Act.put, List.setIfInBounds_toArray, List.set_cons_zero, List.set_cons_succ]
  refine take_d (i := 5) (d := some 64) (v := ?_) rfl rfl (by kernel_rfl) (by kernel_rfl) (by kernel_rfl) (fun _ _ _ h => h) (Or.inl ⟨by first | rfl | (simp [*, Region.wanted, yielded]), ?hyr36⟩) (by assumption) ?restr36
  case hyr36 => (intro w hSw; (try dsimp only at hSw); go_simp <;> with_reducible rfl)
  try simp only [Act.put, List.setIfInBounds_toArray, List.set_cons_zero, List.set_cons_succ]
  refine take_d (i := 6) (d := some 65) (v := undef) rfl rfl (by kernel_rfl) (by kernel_rfl) (by kernel_rfl) (fun _ _ _ h => h) (Or.inr ⟨by first | rfl | (simp [*, Region.wanted, yielded]), rfl⟩) (by assumption) ?restr37
  try simp only [Act.put, List.setIfInBounds_toArray, List.set_cons_zero, List.set_cons_succ]
  refine take_d (i := 7) (d := some 66) (v := undef) rfl rfl (by kernel_rfl) (by kernel_rfl) (by kernel_rfl) (fun _ _ _ h => h) (Or.inr ⟨by first | rfl | (simp [*, Region.wanted, yielded]), rfl⟩) (by assumption) ?restr38
  try simp only [Act.put, List.setIfInBounds_toArray, List.set_cons_zero, List.set_cons_succ]
  refine take_d (i := 8) (d := some 67) (v := undef) rfl rfl (by kernel_rfl) (by kernel_rfl) (by kernel_rfl) (fun _ _ _ h => h) (Or.inr ⟨by first | rfl | (simp [*, Region.wanted, yielded]), rfl⟩) (by assumption) ?restr39
  try simp only [Act.put, List.setIfInBounds_toArray, List.set_cons_zero, List.set_cons_succ]
  refine take_d (i := 9) (d := some 68) (v := undef) rfl rfl (by kernel_rfl) (by kernel_rfl) (by kernel_rfl) (fun _ _ _ h => h) (Or.inr ⟨by first | rfl | (simp [*, Region.wanted, yielded]), rfl⟩) (by assumption) ?restr310
  try simp only [Act.put, List.setIfInBounds_toArray, List.set_cons_zero, List.set_cons_succ]
  refine take_d (i := 10) (d := some 69) (v := undef) rfl rfl (by kernel_rfl) (by kernel_rfl) (by kernel_rfl) (fun _ _ _ h => h) (Or.inr ⟨by first | rfl | (simp [*, Region.wanted, yielded]), rfl⟩) (by assumption) ?restr311
  try simp only [Act.put, List.setIfInBounds_toArray, List.set_cons_zero, List.set_cons_succ]
  refine take_d (i := 11) (d := some 70) (v := ?_) rfl rfl (by kernel_rfl) (by kernel_rfl) (by kernel_rfl) (fun _ _ _ h => h) (Or.inl ⟨by first | rfl | (simp [*, Region.wanted, yielded]), ?hyr312⟩) (by assumption) ?restr312
  case hyr312 => (intro w hSw; (try dsimp only at hSw); go_simp <;> with_reducible rfl)
  try simp only [Act.put, List.setIfInBounds_toArray, List.set_cons_zero, List.set_cons_succ]
  refine take_d (i := 12) (d := some 8) (v := ?_) rfl rfl (by kernel_rfl) (by kernel_rfl) (by kernel_rfl) (fun _ _ _ h => h) (Or.inl ⟨by first | rfl | (simp [*, Region.wanted, yielded]), ?hyr313⟩) (by assumption) ?restr313
  case hyr313 => (intro w hSw; (try dsimp only at hSw); go_simp <;> with_reducible rfl)
  try simp only [Act.put, List.setIfInBounds_toArray, List.set_cons_zero, List.set_cons_succ]
  refine wpAnyH_done (by kernel_rfl) ?_ _
  go_simp
  go_wp2
  go_ret
  exact ⟨HB1.out.trans (Below.mono (Below.refl _ W1).drew HB1.out.size), rfl⟩

set_option maxRecDepth 100000 in
set_option maxHeartbeats 4000000 in
theorem isRight_r4 (P : Int) (ia : Option Addr) (its : List ItemL) (ic : Nat) (ra : Option Addr) (rls : List RuleL) (rc : Nat) (n : Nat) (p : Int) (k : Nat) (pa : Option Addr) (ear : List StepL) (pc : Nat) (w : World) (h : RulesAt w ra rls) (hs : StepsAt w pa ear) (ho : StepsOk 10 ear) (hr : rulesE P rls = 0) (hP : P ≤ 10) (hk : k < rls.length) (ht : (rlAt rls k).2 = p) :
  Calls Try.prog 65 #[.agg #[.int .i64 P, .slice ia its.length ic, .slice ra rls.length rc], .int .i64 n, .agg #[.int .i64 p, .int .i64 (-1), .int .i64 (k : Int)], .slice pa ear.length pc] w (BoolR w ((rlAt rls k).1.all (fun x => (propsL ear).testBit x.toNat))) := by
  have hB0 : Below w.heap.size w ((w.alloc (.cells #[.int .i64 P, .slice ia its.length ic, .slice ra rls.length rc] 25)).alloc (.cells #[.int .i64 p, .int .i64 (-1), .int .i64 (k : Int)] 53)) := ((Below.refl w.heap.size w).alloc (Nat.le_refl _) _).alloc (by simp) _
  have HB0 := hid hB0
  have hq1 : ((k : Int) == -1) = false := by first | (simp; done) | (simp; omega)
  have hlen := h.len
  have hk0 : (0 : Int) ≤ (k : Int) := by omega
  have hk1 : (k : Int) < (rls.length : Int) := by omega
  have hpm := propsL_lt 10 ear (fun s hh => by have := ho s hh; omega)
  have HPo := hid (fun w' (hb : Below w.heap.size w w') => propsOf_any pa ear pc w' (hs.below hb) (fun s hh => ⟨(ho s hh).1, by have := (ho s hh).2; omega⟩))
  rcases h.at_ with e | ⟨b, off, rfl, hc⟩
  · rw [e] at hk; simp at hk
  obtain ⟨A, c, c0, c1, hA, hbd⟩ := hc k hk
  have hm := (rulesE_ok P rls hr k hk)
  have hsm : Small 64 (rls[k]?.getD ([], 0)).1 := fun x hx => by have := isSetFrom_ge _ _ _ hm.1 x hx; omega
  have HHa := hid (fun w' (hb : Below w.heap.size w w') => hasAll_mask (propsL ear) A _ c w' (hA.below hb) hsm (by omega))
  have hrl : rlAt rls k = rls[k]?.getD ([], 0) := rfl
  have HRl := hid hrl
  have HSm := hid (subB_iff _ (propsL ear) hsm (by omega))
  clear hm hsm hA hc hpm hrl h hs ho hr
  generalize rls[k]?.getD ([], 0) = r at *
  obtain ⟨xs, t⟩ := r
  dsimp only at c0 c1 hbd HHa HSm
  generalize propsL ear = M at *
  have htp : (t == p) = true := by rw [HRl.out] at ht; simpa using ht
  clear ht
  generalize hdv : subB xs M = dv at *
  have HDv := hid hdv
  clear hdv
  have hbl := cell_lt c0
  go_enter Try.func65, Try.ntmps65
  go_upto_region 6 with (fail)
  have hB1 : Below w.heap.size w ((((w.alloc (.cells #[.int .i64 P, .slice ia its.length ic, .slice (some ⟨b, off, none⟩) rls.length rc] 25)).alloc (.cells #[.int .i64 p, .int .i64 (-1), .int .i64 (k : Int)] 53))).alloc (.cells #[.slice A xs.length c, .int .i64 t] 55)) := (HB0.out).alloc (by simp; omega) _
  have HB1 := hid hB1
  have d0 : ((((w.alloc (.cells #[.int .i64 P, .slice ia its.length ic, .slice (some ⟨b, off, none⟩) rls.length rc] 25)).alloc (.cells #[.int .i64 p, .int .i64 (-1), .int .i64 (k : Int)] 53))).alloc (.cells #[.slice A xs.length c, .int .i64 t] 55)).cell? ⟨w.heap.size + 2, 0, none⟩ = some (.slice A xs.length c) := by go_simp
  have d1 : ((((w.alloc (.cells #[.int .i64 P, .slice ia its.length ic, .slice (some ⟨b, off, none⟩) rls.length rc] 25)).alloc (.cells #[.int .i64 p, .int .i64 (-1), .int .i64 (k : Int)] 53))).alloc (.cells #[.slice A xs.length c, .int .i64 t] 55)).cell? ⟨w.heap.size + 2, 1, none⟩ = some (.int .i64 t) := by go_simp
  have d2 : ((((w.alloc (.cells #[.int .i64 P, .slice ia its.length ic, .slice (some ⟨b, off, none⟩) rls.length rc] 25)).alloc (.cells #[.int .i64 p, .int .i64 (-1), .int .i64 (k : Int)] 53))).alloc (.cells #[.slice A xs.length c, .int .i64 t] 55)).cell? ⟨w.heap.size + 1, 0, none⟩ = some (.int .i64 p) := by go_simp
  clear hB0 hB1
  generalize (((w.alloc (.cells #[.int .i64 P, .slice ia its.length ic, .slice (some ⟨b, off, none⟩) rls.length rc] 25)).alloc (.cells #[.int .i64 p, .int .i64 (-1), .int .i64 (k : Int)] 53))).alloc (.cells #[.slice A xs.length c, .int .i64 t] 55) = W1 at *
  have HKp := hid (fun w' (hb : Below W1.heap.size W1 w') => (show w'.cell? ⟨w.heap.size + 2, 0, none⟩ = some (.slice A xs.length c) ∧ w'.cell? ⟨w.heap.size + 2, 1, none⟩ = some (.int .i64 t) ∧ w'.cell? ⟨w.heap.size + 1, 0, none⟩ = some (.int .i64 p) ∧ Below W1.heap.size W1 w' from
    ⟨(hb.cell (cell_lt d0)).trans d0, (hb.cell (cell_lt d1)).trans d1, (hb.cell (cell_lt d2)).trans d2, hb⟩))

  refine wp_region_held_drew (S := (fun w' => w'.cell? ⟨w.heap.size + 2, 0, none⟩ = some (.slice A xs.length c) ∧ w'.cell? ⟨w.heap.size + 2, 1, none⟩ = some (.int .i64 t) ∧ w'.cell? ⟨w.heap.size + 1, 0, none⟩ = some (.int .i64 p) ∧ Below W1.heap.size W1 w')) (by kernel_rfl) (HKp.out _ ((Below.refl _ W1).drew)) (fun hHeld => ?_)
  refine take_d (i := 0) (d := some 59) (v := ?_) rfl rfl (by kernel_rfl) (by kernel_rfl) (by kernel_rfl) (fun _ _ _ h => h) (Or.inl ⟨by first | rfl | (simp [*, Region.wanted, yielded]), ?hyr41⟩) (by assumption) ?restr41
  case hyr41 => (intro w hSw; (try dsimp only at hSw); go_simp <;> with_reducible rfl)
  try simp only [Act.put, List.setIfInBounds_toArray, List.set_cons_zero, List.set_cons_succ]
  refine take_d (i := 1) (d := some 60) (v := ?_) rfl rfl (by kernel_rfl) (by kernel_rfl) (by kernel_rfl) (fun _ _ _ h => h) (Or.inl ⟨by first | rfl | (simp [*, Region.wanted, yielded]), ?hyr42⟩) (by assumption) ?restr42
  case hyr42 => (intro w hSw; (try dsimp only at hSw); go_simp <;> with_reducible rfl)
  try simp only [Act.put, List.setIfInBounds_toArray, List.set_cons_zero, List.set_cons_succ]
  refine take_d (i := 2) (d := some 61) (v := ?_) rfl rfl (by kernel_rfl) (by kernel_rfl) (by kernel_rfl) (fun _ _ _ h => h) (Or.inl ⟨by first | rfl | (simp [*, Region.wanted, yielded]), ?hyr43⟩) (by assumption) ?restr43
  case hyr43 => (intro w hSw; (try dsimp only at hSw); go_simp <;> with_reducible rfl)
  try simp only [Act.put, List.setIfInBounds_toArray, List.set_cons_zero, List.set_cons_succ]
  refine take_d (i := 3) (d := some 62) (v := ?_) rfl rfl (by kernel_rfl) (by kernel_rfl) (by kernel_rfl) (fun _ _ _ h => h) (Or.inl ⟨by first | rfl | (simp [*, Region.wanted, yielded]), ?hyr44⟩) (by assumption) ?restr44
  case hyr44 => (intro w hSw; (try dsimp only at hSw); go_simp <;> with_reducible rfl)
  try simp only [Act.put, List.setIfInBounds_toArray, List.set_cons_zero, List.set_cons_succ]
  refine take_d (i := 4) (d := some 63) (v := ?_) rfl rfl (by kernel_rfl) (by kernel_rfl) (by kernel_rfl) (fun _ _ _ h => h) (Or.inl ⟨by first | rfl | (simp [*, Region.wanted, yielded]), ?hyr45⟩) (by assumption) ?restr45
  case hyr45 => (intro w hSw; (try dsimp only at hSw); go_simp <;> with_reducible rfl)
  try simp only [Act.put, List.setIfInBounds_toArray, List.set_cons_zero, List.set_cons_succ]
  refine take_d (i := 5) (d := some 64) (v := ?_) rfl rfl (by kernel_rfl) (by kernel_rfl) (by kernel_rfl) (fun _ _ _ h => h) (Or.inl ⟨by first | rfl | (simp [*, Region.wanted, yielded]), ?hyr46⟩) (by assumption) ?restr46
  case hyr46 => (intro w hSw; (try dsimp only at hSw); go_simp <;> with_reducible rfl)
  try simp only [Act.put, List.setIfInBounds_toArray, List.set_cons_zero, List.set_cons_succ]
  refine take_d (i := 6) (d := some 65) (v := ?_) rfl rfl (by kernel_rfl) (by kernel_rfl) (by kernel_rfl) (fun _ _ _ h => h) (Or.inl ⟨by first | rfl | (simp [*, Region.wanted, yielded]), ?hyr47⟩) (by assumption) ?restr47
  case hyr47 => (intro w hSw; (try dsimp only at hSw); go_simp <;> with_reducible rfl)
  try simp only [Act.put, List.setIfInBounds_toArray, List.set_cons_zero, List.set_cons_succ]
  refine take_d (i := 8) (d := some 67) (v := ?_) rfl rfl (by kernel_rfl) (by kernel_rfl) (by kernel_rfl) (fun _ _ _ h => h) (Or.inl ⟨by first | rfl | (simp [*, Region.wanted, yielded]), ?hyr48⟩) (by assumption) ?restr48
  case hyr48 => (intro w hSw; (try dsimp only at hSw); go_simp <;> with_reducible rfl)
  try simp only [Act.put, List.setIfInBounds_toArray, List.set_cons_zero, List.set_cons_succ]
  refine take_d (i := 9) (d := some 68) (v := ?_) rfl rfl (by kernel_rfl) (by kernel_rfl) (by kernel_rfl) (fun _ _ _ h => h) (Or.inl ⟨by first | rfl | (simp [*, Region.wanted, yielded]), ?hyr49⟩) (by assumption) ?restr49
  case hyr49 => (intro w hSw; (try dsimp only at hSw); go_simp <;> with_reducible rfl)
  try simp only [Act.put, List.setIfInBounds_toArray, List.set_cons_zero, List.set_cons_succ]
  refine wpAnyH_ready (rs := [7]) (by kernel_rfl) (by simp) ?_
  refine AllReadyH.cons (o := _) rfl (fun K hK => ?_) AllReadyH.nil
  go_simp
  refine (HPo.out _ (HB1.out.trans (Below.mono (Below.refl _ W1).drew HB1.out.size))).mono ?_
  rintro e7 w7 ⟨hb7, rfl⟩
  have p7 : Below W1.heap.size W1 w7 := (Below.refl _ W1).drew.trans hb7
  go_wp2_with fail
  refine hK.out _ _ (HKp.out _ p7) (fun hHeld => ?_)
  clear hK K
  try simp only [Act.put, List.setIfInBounds_toArray, List.set_cons_zero, List.set_cons_succ]
  refine wpAnyH_ready (rs := [10]) (by kernel_rfl) (by simp) ?_
  refine AllReadyH.cons (o := _) rfl (fun K hK => ?_) AllReadyH.nil
  go_simp
  refine (HHa.out _ (HB1.out.trans (p7.mono HB1.out.size))).mono ?_
  rintro e10 w10 ⟨rfl, rfl⟩
  go_wp2_with fail
  refine hK.out _ _ (HKp.out _ p7) (fun hHeld => ?_)
  clear hK K
  try simp only [Act.put, List.setIfInBounds_toArray, List.set_cons_zero, List.set_cons_succ]
  refine take_d (i := 11) (d := some 70) (v := ?_) rfl rfl (by kernel_rfl) (by kernel_rfl) (by kernel_rfl) (fun _ _ _ h => h) (Or.inl ⟨by first | rfl | (simp [*, Region.wanted, yielded]), ?hyr410⟩) (by assumption) ?restr410
  case hyr410 => (intro w hSw; (try dsimp only at hSw); go_simp <;> with_reducible rfl)
  try simp only [Act.put, List.setIfInBounds_toArray, List.set_cons_zero, List.set_cons_succ]
  refine take_d (i := 12) (d := some 8) (v := ?_) rfl rfl (by kernel_rfl) (by kernel_rfl) (by kernel_rfl) (fun _ _ _ h => h) (Or.inl ⟨by first | rfl | (simp [*, Region.wanted, yielded]), ?hyr411⟩) (by assumption) ?restr411
  case hyr411 => (intro w hSw; (try dsimp only at hSw); go_simp <;> with_reducible rfl)
  try simp only [Act.put, List.setIfInBounds_toArray, List.set_cons_zero, List.set_cons_succ]
  refine wpAnyH_done (by kernel_rfl) ?_ _
  go_simp
  go_wp2
  go_ret
  refine ⟨HB1.out.trans (p7.mono HB1.out.size), ?_⟩
  rw [HRl.out, ← show dv = xs.all (fun x => M.testBit x.toNat) from by rw [Bool.eq_iff_iff, HSm.out]; simp]
  rfl

theorem isRight_any (P : Int) (ia : Option Addr) (its : List ItemL) (ic : Nat) (ra : Option Addr) (rls : List RuleL) (rc : Nat) (n : Nat) (s : StepL) (pa : Option Addr) (ear : List StepL) (pc : Nat) (w : World) (h : BookAt w P ia its ra rls) (hv : validB P its rls = 0) (hn : n < its.length) (hs : StepsAt w pa ear) (ho : StepsOk 10 ear) :
  Calls Try.prog 65 #[.agg #[.int .i64 P, .slice ia its.length ic, .slice ra rls.length rc], .int .i64 n, .agg #[.int .i64 s.1, .int .i64 s.2.1, .int .i64 s.2.2], .slice pa ear.length pc] w (BoolR w (stepB its rls (contL its n) (propsL ear) s)) := by
  obtain ⟨v0, v1, v2, v3, v4, v5⟩ := validB_ok hv
  obtain ⟨p, f, q⟩ := s
  dsimp only
  unfold stepB
  dsimp only
  by_cases hq : q = -1
  · subst hq
    rw [if_pos rfl]
    by_cases hf : 0 ≤ f ∧ f < (its.length : Int)
    · obtain ⟨k, rfl⟩ := Int.eq_ofNat_of_zero_le hf.1
      have hk : k < its.length := by omega
      rw [decide_eq_true hf.1, decide_eq_true hf.2, Bool.true_and, Bool.true_and, Int.toNat_natCast]
      cases hC : (contL its n).testBit k with
      | true =>
        rw [Bool.true_and]
        exact isRight_o3 P ia its ic _ n p k pa ear.length pc w h.items v2 hn v4 hk hC
      | false =>
        rw [Bool.false_and]
        exact isRight_o2 P ia its ic _ n p k pa ear.length pc w h.items v2 hn v4 hk hC
    · have := isRight_o1 P ia its ic (.slice ra rls.length rc) n p f pa ear.length pc w h.items v2 hn v4 hf
      rw [show (decide (0 ≤ f) && (decide (f < (its.length : Int)) && ((contL its n).testBit f.toNat && decide (p ∈ hsL its f.toNat)))) = false from by
        rw [← Bool.and_assoc, ← Bool.decide_and, decide_eq_false hf]; rfl]
      exact this
  · rw [if_neg hq]
    by_cases hf : f = -1
    · subst hf
      rw [decide_eq_true rfl, Bool.true_and]
      by_cases hk : 0 ≤ q ∧ q < (rls.length : Int)
      · obtain ⟨k, rfl⟩ := Int.eq_ofNat_of_zero_le hk.1
        have hk2 : k < rls.length := by omega
        rw [decide_eq_true hk.1, decide_eq_true hk.2, Bool.true_and, Bool.true_and, Int.toNat_natCast]
        by_cases ht : (rlAt rls k).2 = p
        · rw [decide_eq_true ht, Bool.true_and]
          exact isRight_r4 P ia its ic ra rls rc n p k pa ear pc w h.rules hs ho v5 v1 hk2 ht
        · rw [decide_eq_false ht, Bool.false_and]
          exact isRight_r3 P ia its ic ra rls rc n p k pa ear pc w h.rules hs ho v5 v1 hk2 ht
      · rw [← Bool.and_assoc, ← Bool.decide_and, decide_eq_false hk, Bool.false_and]
        exact isRight_r2 P ia its ic ra rls rc n p q pa ear pc w h.rules hs ho v5 v1 hq (by omega)
    · rw [decide_eq_false hf, Bool.false_and]
      exact isRight_r1 P ia its ic ra rls rc n p f q pa ear pc w h.rules hs ho v5 v1 hq hf
end Go.Proofs.Ytdgleicpcjfnoaa
