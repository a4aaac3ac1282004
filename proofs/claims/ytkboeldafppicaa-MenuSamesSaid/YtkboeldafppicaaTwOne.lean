/- twin.one of the program: just one of the two states is accepted. -/
import Derived.Test.YtkboeldafppicaaTwin
import Derived.Test.YtkboeldafppicaaTakeD
set_option linter.unusedVariables false
set_option linter.unusedSimpArgs false
namespace Go.Proofs.Ytkboeldafppicaa
open Go.RowKit Go.Maps

set_option maxRecDepth 100000 in
set_option maxHeartbeats 4000000 in
theorem twOne_any (L nc ac nc' ac' : Nat) (Na Aa Na' Aa' : Option Addr) (ra rb : List (List Int)) (aa ab : List Bool) (i j : Nat) (w : World) (h : MachAt w Na ra Aa aa) (h' : MachAt w Na' rb Aa' ab) (hg : GoodM L ra aa) (hg' : GoodM L rb ab) (hi : i < ra.length) (hj : j < rb.length) :
    Calls Try.prog 77 #[twV L Na ra.length nc Aa ac Na' rb.length nc' Aa' ac', .agg #[.int .i64 (i : Int), .int .i64 (j : Int)]] w fun e w' => Below w.heap.size w w' ∧ e = .returned (.bool (mA aa i != mA ab j)) := by
  have hB : Below w.heap.size w ((w.alloc (.cells #[.int .i64 (L : Int), .slice Na ra.length nc, .slice Aa ra.length ac, .int .i64 (L : Int), .slice Na' rb.length nc', .slice Aa' rb.length ac'] 83)).alloc (.cells #[.int .i64 (i : Int), .int .i64 (j : Int)] 84)) := ((Below.refl _ _).alloc (Nat.le_refl _) _).alloc (by simp) _
  have HB := hid hB
  have HM := hid (h.below hB)
  have HM' := hid (h'.below hB)
  have hc := hg.acc
  have hc' := hg'.acc
  have c0 : ((w.alloc (.cells #[.int .i64 (L : Int), .slice Na ra.length nc, .slice Aa ra.length ac, .int .i64 (L : Int), .slice Na' rb.length nc', .slice Aa' rb.length ac'] 83)).alloc (.cells #[.int .i64 (i : Int), .int .i64 (j : Int)] 84)).cell? ⟨w.heap.size, 0, none⟩ = some (.int .i64 (L : Int)) := by go_simp
  have c1 : ((w.alloc (.cells #[.int .i64 (L : Int), .slice Na ra.length nc, .slice Aa ra.length ac, .int .i64 (L : Int), .slice Na' rb.length nc', .slice Aa' rb.length ac'] 83)).alloc (.cells #[.int .i64 (i : Int), .int .i64 (j : Int)] 84)).cell? ⟨w.heap.size, 1, none⟩ = some (.slice Na ra.length nc) := by go_simp
  have c2 : ((w.alloc (.cells #[.int .i64 (L : Int), .slice Na ra.length nc, .slice Aa ra.length ac, .int .i64 (L : Int), .slice Na' rb.length nc', .slice Aa' rb.length ac'] 83)).alloc (.cells #[.int .i64 (i : Int), .int .i64 (j : Int)] 84)).cell? ⟨w.heap.size, 2, none⟩ = some (.slice Aa ra.length ac) := by go_simp
  have c3 : ((w.alloc (.cells #[.int .i64 (L : Int), .slice Na ra.length nc, .slice Aa ra.length ac, .int .i64 (L : Int), .slice Na' rb.length nc', .slice Aa' rb.length ac'] 83)).alloc (.cells #[.int .i64 (i : Int), .int .i64 (j : Int)] 84)).cell? ⟨w.heap.size, 3, none⟩ = some (.int .i64 (L : Int)) := by go_simp
  have c4 : ((w.alloc (.cells #[.int .i64 (L : Int), .slice Na ra.length nc, .slice Aa ra.length ac, .int .i64 (L : Int), .slice Na' rb.length nc', .slice Aa' rb.length ac'] 83)).alloc (.cells #[.int .i64 (i : Int), .int .i64 (j : Int)] 84)).cell? ⟨w.heap.size, 4, none⟩ = some (.slice Na' rb.length nc') := by go_simp
  have c5 : ((w.alloc (.cells #[.int .i64 (L : Int), .slice Na ra.length nc, .slice Aa ra.length ac, .int .i64 (L : Int), .slice Na' rb.length nc', .slice Aa' rb.length ac'] 83)).alloc (.cells #[.int .i64 (i : Int), .int .i64 (j : Int)] 84)).cell? ⟨w.heap.size, 5, none⟩ = some (.slice Aa' rb.length ac') := by go_simp
  have c6 : ((w.alloc (.cells #[.int .i64 (L : Int), .slice Na ra.length nc, .slice Aa ra.length ac, .int .i64 (L : Int), .slice Na' rb.length nc', .slice Aa' rb.length ac'] 83)).alloc (.cells #[.int .i64 (i : Int), .int .i64 (j : Int)] 84)).cell? ⟨w.heap.size + 1, 0, none⟩ = some (.int .i64 (i : Int)) := by go_simp
  have c7 : ((w.alloc (.cells #[.int .i64 (L : Int), .slice Na ra.length nc, .slice Aa ra.length ac, .int .i64 (L : Int), .slice Na' rb.length nc', .slice Aa' rb.length ac'] 83)).alloc (.cells #[.int .i64 (i : Int), .int .i64 (j : Int)] 84)).cell? ⟨w.heap.size + 1, 1, none⟩ = some (.int .i64 (j : Int)) := by go_simp
  unfold twV
  go_enter Try.func77, Try.ntmps77
  go_upto_region 1 with (fail)
  generalize ((w.alloc (.cells #[.int .i64 (L : Int), .slice Na ra.length nc, .slice Aa ra.length ac, .int .i64 (L : Int), .slice Na' rb.length nc', .slice Aa' rb.length ac'] 83)).alloc (.cells #[.int .i64 (i : Int), .int .i64 (j : Int)] 84)) = w0 at *
  have HN := hid (show ∀ wx, Below w0.heap.size w0 wx → Calls Try.prog 72 #[.agg #[.int .i64 (L : Int), .slice Na ra.length nc, .slice Aa ra.length ac], .int .i64 (i : Int)] wx fun e w' => Below wx.heap.size wx w' ∧ e = .returned (.bool (mA aa i)) from fun wx hb => by
    have := accepts_any L i nc ac ra.length ra.length Na Aa ra aa wx (HM.out.below hb) (by rw [hc]; exact hi) hc.symm
    exact this.mono (by rintro e w' ⟨rfl, rfl⟩; exact ⟨(Below.refl _ _).alloc (Nat.le_refl _) _, rfl⟩))
  have HN' := hid (show ∀ wx, Below w0.heap.size w0 wx → Calls Try.prog 72 #[.agg #[.int .i64 (L : Int), .slice Na' rb.length nc', .slice Aa' rb.length ac'], .int .i64 (j : Int)] wx fun e w' => Below wx.heap.size wx w' ∧ e = .returned (.bool (mA ab j)) from fun wx hb => by
    have := accepts_any L j nc' ac' rb.length rb.length Na' Aa' rb ab wx (HM'.out.below hb) (by rw [hc']; exact hj) hc'.symm
    exact this.mono (by rintro e w' ⟨rfl, rfl⟩; exact ⟨(Below.refl _ _).alloc (Nat.le_refl _) _, rfl⟩))
  clear h h' hg hg' hc hc' hB hi hj
  generalize hxe : mA aa i = x at *
  generalize hye : mA ab j = y at *
  have HXe := hid hxe
  have HYe := hid hye
  clear hxe hye
  have hr0 : Below w0.heap.size w0 w0 := Below.refl _ _
  have HKp := hid (fun w' (hb : Below w0.heap.size w0 w') => (show w'.cell? ⟨w.heap.size, 0, none⟩ = some (.int .i64 (L : Int)) ∧ w'.cell? ⟨w.heap.size, 1, none⟩ = some (.slice Na ra.length nc) ∧ w'.cell? ⟨w.heap.size, 2, none⟩ = some (.slice Aa ra.length ac) ∧ w'.cell? ⟨w.heap.size, 3, none⟩ = some (.int .i64 (L : Int)) ∧ w'.cell? ⟨w.heap.size, 4, none⟩ = some (.slice Na' rb.length nc') ∧ w'.cell? ⟨w.heap.size, 5, none⟩ = some (.slice Aa' rb.length ac') ∧ w'.cell? ⟨w.heap.size + 1, 0, none⟩ = some (.int .i64 (i : Int)) ∧ w'.cell? ⟨w.heap.size + 1, 1, none⟩ = some (.int .i64 (j : Int)) from ⟨(hb.cell (cell_lt c0)).trans c0, (hb.cell (cell_lt c1)).trans c1, (hb.cell (cell_lt c2)).trans c2, (hb.cell (cell_lt c3)).trans c3, (hb.cell (cell_lt c4)).trans c4, (hb.cell (cell_lt c5)).trans c5, (hb.cell (cell_lt c6)).trans c6, (hb.cell (cell_lt c7)).trans c7⟩))
  clear c0 c1 c2 c3 c4 c5 c6 c7
  refine wp_region_held_drew (S := (fun w' => w'.cell? ⟨w.heap.size, 0, none⟩ = some (.int .i64 (L : Int)) ∧ w'.cell? ⟨w.heap.size, 1, none⟩ = some (.slice Na ra.length nc) ∧ w'.cell? ⟨w.heap.size, 2, none⟩ = some (.slice Aa ra.length ac) ∧ w'.cell? ⟨w.heap.size, 3, none⟩ = some (.int .i64 (L : Int)) ∧ w'.cell? ⟨w.heap.size, 4, none⟩ = some (.slice Na' rb.length nc') ∧ w'.cell? ⟨w.heap.size, 5, none⟩ = some (.slice Aa' rb.length ac') ∧ w'.cell? ⟨w.heap.size + 1, 0, none⟩ = some (.int .i64 (i : Int)) ∧ w'.cell? ⟨w.heap.size + 1, 1, none⟩ = some (.int .i64 (j : Int)))) (by kernel_rfl) (HKp.out _ hr0.drew) (fun hHeld => ?_)
  refine take_d (i := 0) (d := some 5) (v := ?_) rfl rfl (by kernel_rfl) (by kernel_rfl) (by kernel_rfl) (fun _ _ _ h => h) (Or.inl ⟨by first | rfl | (simp [*, Region.wanted, yielded]), ?hyq1⟩) (by assumption) ?restq1
  case hyq1 => (intro w hSw; (try dsimp only at hSw); go_simp <;> with_reducible rfl)
  try simp only [Act.put, List.setIfInBounds_toArray, List.set_cons_zero, List.set_cons_succ]
  refine take_d (i := 1) (d := some 6) (v := ?_) rfl rfl (by kernel_rfl) (by kernel_rfl) (by kernel_rfl) (fun _ _ _ h => h) (Or.inl ⟨by first | rfl | (simp [*, Region.wanted, yielded]), ?hyq2⟩) (by assumption) ?restq2
  case hyq2 => (intro w hSw; (try dsimp only at hSw); go_simp <;> with_reducible rfl)
  try simp only [Act.put, List.setIfInBounds_toArray, List.set_cons_zero, List.set_cons_succ]
  refine take_d (i := 2) (d := some 7) (v := ?_) rfl rfl (by kernel_rfl) (by kernel_rfl) (by kernel_rfl) (fun _ _ _ h => h) (Or.inl ⟨by first | rfl | (simp [*, Region.wanted, yielded]), ?hyq3⟩) (by assumption) ?restq3
  case hyq3 => (intro w hSw; (try dsimp only at hSw); go_simp <;> with_reducible rfl)
  try simp only [Act.put, List.setIfInBounds_toArray, List.set_cons_zero, List.set_cons_succ]
  refine take_d (i := 3) (d := some 8) (v := ?_) rfl rfl (by kernel_rfl) (by kernel_rfl) (by kernel_rfl) (fun _ _ _ h => h) (Or.inl ⟨by first | rfl | (simp [*, Region.wanted, yielded]), ?hyq4⟩) (by assumption) ?restq4
  case hyq4 => (intro w hSw; (try dsimp only at hSw); go_simp <;> with_reducible rfl)
  try simp only [Act.put, List.setIfInBounds_toArray, List.set_cons_zero, List.set_cons_succ]
  refine take_d (i := 5) (d := some 10) (v := ?_) rfl rfl (by kernel_rfl) (by kernel_rfl) (by kernel_rfl) (fun _ _ _ h => h) (Or.inl ⟨by first | rfl | (simp [*, Region.wanted, yielded]), ?hyq5⟩) (by assumption) ?restq5
  case hyq5 => (intro w hSw; (try dsimp only at hSw); go_simp <;> with_reducible rfl)
  try simp only [Act.put, List.setIfInBounds_toArray, List.set_cons_zero, List.set_cons_succ]
  refine take_d (i := 6) (d := some 11) (v := ?_) rfl rfl (by kernel_rfl) (by kernel_rfl) (by kernel_rfl) (fun _ _ _ h => h) (Or.inl ⟨by first | rfl | (simp [*, Region.wanted, yielded]), ?hyq6⟩) (by assumption) ?restq6
  case hyq6 => (intro w hSw; (try dsimp only at hSw); go_simp <;> with_reducible rfl)
  try simp only [Act.put, List.setIfInBounds_toArray, List.set_cons_zero, List.set_cons_succ]
  refine take_d (i := 7) (d := some 12) (v := ?_) rfl rfl (by kernel_rfl) (by kernel_rfl) (by kernel_rfl) (fun _ _ _ h => h) (Or.inl ⟨by first | rfl | (simp [*, Region.wanted, yielded]), ?hyq7⟩) (by assumption) ?restq7
  case hyq7 => (intro w hSw; (try dsimp only at hSw); go_simp <;> with_reducible rfl)
  try simp only [Act.put, List.setIfInBounds_toArray, List.set_cons_zero, List.set_cons_succ]
  refine take_d (i := 8) (d := some 13) (v := ?_) rfl rfl (by kernel_rfl) (by kernel_rfl) (by kernel_rfl) (fun _ _ _ h => h) (Or.inl ⟨by first | rfl | (simp [*, Region.wanted, yielded]), ?hyq8⟩) (by assumption) ?restq8
  case hyq8 => (intro w hSw; (try dsimp only at hSw); go_simp <;> with_reducible rfl)
  try simp only [Act.put, List.setIfInBounds_toArray, List.set_cons_zero, List.set_cons_succ]
  refine wpAnyH_ready (rs := [4]) (by kernel_rfl) (by simp) ?_
  refine AllReadyH.cons (o := _) rfl (fun K hK => ?_) AllReadyH.nil
  go_simp
  go_at_call 72
  refine (HN.out _ (hr0.drew)).mono ?_
  rintro e4 w4 ⟨hb4, rfl⟩
  have p4 : Below w0.heap.size w0 w4 := (hr0.drew).trans (hb4.mono (hr0.drew).size)
  go_wp2_with fail
  refine hK.out _ _ (HKp.out _ p4) (fun hHeld => ?_)
  clear hK K
  try simp only [Act.put, List.setIfInBounds_toArray, List.set_cons_zero, List.set_cons_succ]
  refine wpAnyH_ready (rs := [9]) (by kernel_rfl) (by simp) ?_
  refine AllReadyH.cons (o := _) rfl (fun K hK => ?_) AllReadyH.nil
  go_simp
  go_at_call 72
  refine (HN'.out _ (p4)).mono ?_
  rintro e9 w9 ⟨hb9, rfl⟩
  have p9 : Below w0.heap.size w0 w9 := (p4).trans (hb9.mono (p4).size)
  go_wp2_with fail
  refine hK.out _ _ (HKp.out _ p9) (fun hHeld => ?_)
  clear hK K
  try simp only [Act.put, List.setIfInBounds_toArray, List.set_cons_zero, List.set_cons_succ]
  refine take_d (i := 10) (d := some 15) (v := ?_) rfl rfl (by kernel_rfl) (by kernel_rfl) (by kernel_rfl) (fun _ _ _ h => h) (Or.inl ⟨by first | rfl | (simp [*, Region.wanted, yielded]), ?hyq9⟩) (by assumption) ?restq9
  case hyq9 => (intro w hSw; (try dsimp only at hSw); go_simp <;> with_reducible rfl)
  try simp only [Act.put, List.setIfInBounds_toArray, List.set_cons_zero, List.set_cons_succ]
  refine take_d (i := 11) (d := some 4) (v := ?_) rfl rfl (by kernel_rfl) (by kernel_rfl) (by kernel_rfl) (fun _ _ _ h => h) (Or.inl ⟨by first | rfl | (simp [*, Region.wanted, yielded]), ?hyq10⟩) (by assumption) ?restq10
  case hyq10 => (intro w hSw; (try dsimp only at hSw); go_simp <;> with_reducible rfl)
  try simp only [Act.put, List.setIfInBounds_toArray, List.set_cons_zero, List.set_cons_succ]
  refine wpAnyH_done (by kernel_rfl) ?_ _
  go_simp
  have hbz := hid (HB.out.trans (p9.mono HB.out.size))
  clear hHeld
  go_wp2
  go_ret
  exact ⟨hbz.out, by rw [HXe.out, HYe.out]; clear HXe HYe; cases x <;> cases y <;> rfl⟩
end Go.Proofs.Ytkboeldafppicaa
