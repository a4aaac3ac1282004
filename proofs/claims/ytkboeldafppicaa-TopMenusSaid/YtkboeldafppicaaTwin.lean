/- Two machines that read a word together: the methods of twin of package menu. -/
import Derived.Test.YtkboeldafppicaaPlainT
import Derived.Test.YtkboeldafppicaaWkM
import Derived.Test.YtkboeldafppicaaMPlain
import Derived.Deep.RegionHeld3
set_option linter.unusedVariables false
set_option linter.unusedSimpArgs false
namespace Go.Proofs.Ytkboeldafppicaa
open Go.RowKit Go.Maps

/-- Two machines as one value. -/
def twV (L : Nat) (Na : Option Addr) (rn nc : Nat) (Aa : Option Addr) (ac : Nat) (Na' : Option Addr) (rn' nc' : Nat) (Aa' : Option Addr) (ac' : Nat) : Value := .agg #[.int .i64 L, .slice Na rn nc, .slice Aa rn ac, .int .i64 L, .slice Na' rn' nc', .slice Aa' rn' ac']
section
variable (L nc ac nc' ac' : Nat) (Na Aa Na' Aa' : Option Addr) (ra rb : List (List Int)) (aa ab : List Bool)
theorem twS_keep {w0 w w' : World} {p q : Nat} {x y : Value} {v0 v1 v2 v3 v4 v5 : Value} (h : w.cell? ⟨p, 0, none⟩ = some v0 ∧ w.cell? ⟨p, 1, none⟩ = some v1 ∧ w.cell? ⟨p, 2, none⟩ = some v2 ∧ w.cell? ⟨p, 3, none⟩ = some v3 ∧ w.cell? ⟨p, 4, none⟩ = some v4 ∧ w.cell? ⟨p, 5, none⟩ = some v5 ∧ w.cell? ⟨q, 0, none⟩ = some x ∧ w.cell? ⟨q, 1, none⟩ = some y ∧ Below w0.heap.size w0 w) (hb : Below w.heap.size w w') : w'.cell? ⟨p, 0, none⟩ = some v0 ∧ w'.cell? ⟨p, 1, none⟩ = some v1 ∧ w'.cell? ⟨p, 2, none⟩ = some v2 ∧ w'.cell? ⟨p, 3, none⟩ = some v3 ∧ w'.cell? ⟨p, 4, none⟩ = some v4 ∧ w'.cell? ⟨p, 5, none⟩ = some v5 ∧ w'.cell? ⟨q, 0, none⟩ = some x ∧ w'.cell? ⟨q, 1, none⟩ = some y ∧ Below w0.heap.size w0 w' := by
  obtain ⟨a0, a1, a2, a3, a4, a5, a6, a7, h6⟩ := h
  exact ⟨(hb.cell (cell_lt a0)).trans a0, (hb.cell (cell_lt a1)).trans a1, (hb.cell (cell_lt a2)).trans a2, (hb.cell (cell_lt a3)).trans a3, (hb.cell (cell_lt a4)).trans a4, (hb.cell (cell_lt a5)).trans a5, (hb.cell (cell_lt a6)).trans a6, (hb.cell (cell_lt a7)).trans a7, h6.trans (hb.mono h6.size)⟩
set_option maxRecDepth 100000 in
set_option maxHeartbeats 4000000 in
theorem twNext_any (i j c : Nat) (w : World) (h : MachAt w Na ra Aa aa) (h' : MachAt w Na' rb Aa' ab) (hg : GoodM L ra aa) (hg' : GoodM L rb ab) (hi : i < ra.length) (hj : j < rb.length) (hc : c < L) :
    Calls Try.prog 125 #[twV L Na ra.length nc Aa ac Na' rb.length nc' Aa' ac', .agg #[.int .i64 (i : Int), .int .i64 (j : Int)], .int .i64 (c : Int)] w fun e w' => Below w.heap.size w w' ∧ e = .returned (.agg #[.int .i64 (mN ra i c : Int), .int .i64 (mN rb j c : Int)]) := by
  have hB : Below w.heap.size w (((w.alloc (.cells #[.int .i64 (L : Int), .slice Na ra.length nc, .slice Aa ra.length ac, .int .i64 (L : Int), .slice Na' rb.length nc', .slice Aa' rb.length ac'] 83)).alloc (.cells #[.int .i64 (i : Int), .int .i64 (j : Int)] 84)).alloc (.cells #[.int .i64 0, .int .i64 0] 84)) := (((Below.refl _ _).alloc (Nat.le_refl _) _).alloc (by simp) _).alloc (by simp; omega) _
  have HB := hid hB
  have HM := hid (h.below hB)
  have HM' := hid (h'.below hB)
  have hrow := hg.row i hi
  have hrow' := hg'.row j hj
  have he := (hg.ent i c hi hc).2
  have he' := (hg'.ent j c hj hc).2
  have c0 : (((w.alloc (.cells #[.int .i64 (L : Int), .slice Na ra.length nc, .slice Aa ra.length ac, .int .i64 (L : Int), .slice Na' rb.length nc', .slice Aa' rb.length ac'] 83)).alloc (.cells #[.int .i64 (i : Int), .int .i64 (j : Int)] 84)).alloc (.cells #[.int .i64 0, .int .i64 0] 84)).cell? ⟨w.heap.size, 0, none⟩ = some (.int .i64 (L : Int)) := by go_simp
  have c1 : (((w.alloc (.cells #[.int .i64 (L : Int), .slice Na ra.length nc, .slice Aa ra.length ac, .int .i64 (L : Int), .slice Na' rb.length nc', .slice Aa' rb.length ac'] 83)).alloc (.cells #[.int .i64 (i : Int), .int .i64 (j : Int)] 84)).alloc (.cells #[.int .i64 0, .int .i64 0] 84)).cell? ⟨w.heap.size, 1, none⟩ = some (.slice Na ra.length nc) := by go_simp
  have c2 : (((w.alloc (.cells #[.int .i64 (L : Int), .slice Na ra.length nc, .slice Aa ra.length ac, .int .i64 (L : Int), .slice Na' rb.length nc', .slice Aa' rb.length ac'] 83)).alloc (.cells #[.int .i64 (i : Int), .int .i64 (j : Int)] 84)).alloc (.cells #[.int .i64 0, .int .i64 0] 84)).cell? ⟨w.heap.size, 2, none⟩ = some (.slice Aa ra.length ac) := by go_simp
  have c3 : (((w.alloc (.cells #[.int .i64 (L : Int), .slice Na ra.length nc, .slice Aa ra.length ac, .int .i64 (L : Int), .slice Na' rb.length nc', .slice Aa' rb.length ac'] 83)).alloc (.cells #[.int .i64 (i : Int), .int .i64 (j : Int)] 84)).alloc (.cells #[.int .i64 0, .int .i64 0] 84)).cell? ⟨w.heap.size, 3, none⟩ = some (.int .i64 (L : Int)) := by go_simp
  have c4 : (((w.alloc (.cells #[.int .i64 (L : Int), .slice Na ra.length nc, .slice Aa ra.length ac, .int .i64 (L : Int), .slice Na' rb.length nc', .slice Aa' rb.length ac'] 83)).alloc (.cells #[.int .i64 (i : Int), .int .i64 (j : Int)] 84)).alloc (.cells #[.int .i64 0, .int .i64 0] 84)).cell? ⟨w.heap.size, 4, none⟩ = some (.slice Na' rb.length nc') := by go_simp
  have c5 : (((w.alloc (.cells #[.int .i64 (L : Int), .slice Na ra.length nc, .slice Aa ra.length ac, .int .i64 (L : Int), .slice Na' rb.length nc', .slice Aa' rb.length ac'] 83)).alloc (.cells #[.int .i64 (i : Int), .int .i64 (j : Int)] 84)).alloc (.cells #[.int .i64 0, .int .i64 0] 84)).cell? ⟨w.heap.size, 5, none⟩ = some (.slice Aa' rb.length ac') := by go_simp
  have s0 : (((w.alloc (.cells #[.int .i64 (L : Int), .slice Na ra.length nc, .slice Aa ra.length ac, .int .i64 (L : Int), .slice Na' rb.length nc', .slice Aa' rb.length ac'] 83)).alloc (.cells #[.int .i64 (i : Int), .int .i64 (j : Int)] 84)).alloc (.cells #[.int .i64 0, .int .i64 0] 84)).cell? ⟨w.heap.size + 1, 0, none⟩ = some (.int .i64 (i : Int)) := by go_simp
  have s1 : (((w.alloc (.cells #[.int .i64 (L : Int), .slice Na ra.length nc, .slice Aa ra.length ac, .int .i64 (L : Int), .slice Na' rb.length nc', .slice Aa' rb.length ac'] 83)).alloc (.cells #[.int .i64 (i : Int), .int .i64 (j : Int)] 84)).alloc (.cells #[.int .i64 0, .int .i64 0] 84)).cell? ⟨w.heap.size + 1, 1, none⟩ = some (.int .i64 (j : Int)) := by go_simp
  have r0 : (((w.alloc (.cells #[.int .i64 (L : Int), .slice Na ra.length nc, .slice Aa ra.length ac, .int .i64 (L : Int), .slice Na' rb.length nc', .slice Aa' rb.length ac'] 83)).alloc (.cells #[.int .i64 (i : Int), .int .i64 (j : Int)] 84)).alloc (.cells #[.int .i64 0, .int .i64 0] 84)).cell? ⟨w.heap.size + 1 + 1, 0, none⟩ = some (.int .i64 0) := by go_simp
  have r1 : (((w.alloc (.cells #[.int .i64 (L : Int), .slice Na ra.length nc, .slice Aa ra.length ac, .int .i64 (L : Int), .slice Na' rb.length nc', .slice Aa' rb.length ac'] 83)).alloc (.cells #[.int .i64 (i : Int), .int .i64 (j : Int)] 84)).alloc (.cells #[.int .i64 0, .int .i64 0] 84)).cell? ⟨w.heap.size + 1 + 1, 1, none⟩ = some (.int .i64 0) := by go_simp
  have rf : ∀ o, (((w.alloc (.cells #[.int .i64 (L : Int), .slice Na ra.length nc, .slice Aa ra.length ac, .int .i64 (L : Int), .slice Na' rb.length nc', .slice Aa' rb.length ac'] 83)).alloc (.cells #[.int .i64 (i : Int), .int .i64 (j : Int)] 84)).alloc (.cells #[.int .i64 0, .int .i64 0] 84)).frozen? ⟨w.heap.size + 1 + 1, o, none⟩ = false := fun o => by go_simp
  have hs : (((w.alloc (.cells #[.int .i64 (L : Int), .slice Na ra.length nc, .slice Aa ra.length ac, .int .i64 (L : Int), .slice Na' rb.length nc', .slice Aa' rb.length ac'] 83)).alloc (.cells #[.int .i64 (i : Int), .int .i64 (j : Int)] 84)).alloc (.cells #[.int .i64 0, .int .i64 0] 84)).heap.size = w.heap.size + 3 := by simp
  unfold twV
  go_enter Try.func125, Try.ntmps125
  go_upto_region 1 with (fail)
  generalize ((w.alloc (.cells #[.int .i64 (L : Int), .slice Na ra.length nc, .slice Aa ra.length ac, .int .i64 (L : Int), .slice Na' rb.length nc', .slice Aa' rb.length ac'] 83)).alloc (.cells #[.int .i64 (i : Int), .int .i64 (j : Int)] 84)).alloc (.cells #[.int .i64 0, .int .i64 0] 84) = w0 at *
  have HN := hid (show ∀ wx, Below w0.heap.size w0 wx → Calls Try.prog 71 #[.agg #[.int .i64 (L : Int), .slice Na ra.length nc, .slice Aa ra.length ac], .int .i64 (i : Int), .int .i64 (c : Int)] wx fun e w' => Below wx.heap.size wx w' ∧ e = .returned (.int .i64 (mN ra i c : Int)) from fun wx hb => by
    have := next_any L i c nc ac ra.length Na Aa ra aa wx (HM.out.below hb) hi (by rw [hrow]; exact hc)
    rw [he] at this
    exact this.mono (by rintro e w' ⟨rfl, rfl⟩; exact ⟨(Below.refl _ _).alloc (Nat.le_refl _) _, rfl⟩))
  have HN' := hid (show ∀ wx, Below w0.heap.size w0 wx → Calls Try.prog 71 #[.agg #[.int .i64 (L : Int), .slice Na' rb.length nc', .slice Aa' rb.length ac'], .int .i64 (j : Int), .int .i64 (c : Int)] wx fun e w' => Below wx.heap.size wx w' ∧ e = .returned (.int .i64 (mN rb j c : Int)) from fun wx hb => by
    have := next_any L j c nc' ac' rb.length Na' Aa' rb ab wx (HM'.out.below hb) hj (by rw [hrow']; exact hc)
    rw [he'] at this
    exact this.mono (by rintro e w' ⟨rfl, rfl⟩; exact ⟨(Below.refl _ _).alloc (Nat.le_refl _) _, rfl⟩))
  have S0 := hid (show _ ∧ _ ∧ _ ∧ _ ∧ _ ∧ _ ∧ _ ∧ _ ∧ _ from ⟨c0, c1, c2, c3, c4, c5, s0, s1, Below.refl w0.heap.size w0⟩)
  have HS := hid hs
  have HR := hid (And.intro r0 (And.intro r1 rf))
  clear h h' hg hg' hrow hrow' he he' hB c0 c1 c2 c3 c4 c5 s0 s1 r0 r1 rf hs hi hj hc
  generalize hxe : mN ra i c = x at *
  generalize hye : mN rb j c = y at *
  have HXe := hid hxe
  have HYe := hid hye
  clear hxe hye
  have hr0 : Below w0.heap.size w0 w0 := Below.refl _ _
  have HKp := hid (fun w' (hb : Below w0.heap.size w0 w') => (show w'.cell? ⟨w.heap.size, 0, none⟩ = some (.int .i64 (L : Int)) ∧ w'.cell? ⟨w.heap.size, 1, none⟩ = some (.slice Na ra.length nc) ∧ w'.cell? ⟨w.heap.size, 2, none⟩ = some (.slice Aa ra.length ac) ∧ w'.cell? ⟨w.heap.size, 3, none⟩ = some (.int .i64 (L : Int)) ∧ w'.cell? ⟨w.heap.size, 4, none⟩ = some (.slice Na' rb.length nc') ∧ w'.cell? ⟨w.heap.size, 5, none⟩ = some (.slice Aa' rb.length ac') ∧ w'.cell? ⟨w.heap.size + 1, 0, none⟩ = some (.int .i64 (i : Int)) ∧ w'.cell? ⟨w.heap.size + 1, 1, none⟩ = some (.int .i64 (j : Int)) from ⟨(hb.cell (cell_lt S0.out.1)).trans S0.out.1, (hb.cell (cell_lt S0.out.2.1)).trans S0.out.2.1, (hb.cell (cell_lt S0.out.2.2.1)).trans S0.out.2.2.1, (hb.cell (cell_lt S0.out.2.2.2.1)).trans S0.out.2.2.2.1, (hb.cell (cell_lt S0.out.2.2.2.2.1)).trans S0.out.2.2.2.2.1, (hb.cell (cell_lt S0.out.2.2.2.2.2.1)).trans S0.out.2.2.2.2.2.1, (hb.cell (cell_lt S0.out.2.2.2.2.2.2.1)).trans S0.out.2.2.2.2.2.2.1, (hb.cell (cell_lt S0.out.2.2.2.2.2.2.2.1)).trans S0.out.2.2.2.2.2.2.2.1⟩))
  have HKq := hid (fun w' (hb : Below (w.heap.size + 2) w0 w') => (show w'.cell? ⟨w.heap.size, 0, none⟩ = some (.int .i64 (L : Int)) ∧ w'.cell? ⟨w.heap.size, 1, none⟩ = some (.slice Na ra.length nc) ∧ w'.cell? ⟨w.heap.size, 2, none⟩ = some (.slice Aa ra.length ac) ∧ w'.cell? ⟨w.heap.size, 3, none⟩ = some (.int .i64 (L : Int)) ∧ w'.cell? ⟨w.heap.size, 4, none⟩ = some (.slice Na' rb.length nc') ∧ w'.cell? ⟨w.heap.size, 5, none⟩ = some (.slice Aa' rb.length ac') ∧ w'.cell? ⟨w.heap.size + 1, 0, none⟩ = some (.int .i64 (i : Int)) ∧ w'.cell? ⟨w.heap.size + 1, 1, none⟩ = some (.int .i64 (j : Int)) from ⟨(hb.cell (by dsimp only; omega)).trans S0.out.1, (hb.cell (by dsimp only; omega)).trans S0.out.2.1, (hb.cell (by dsimp only; omega)).trans S0.out.2.2.1, (hb.cell (by dsimp only; omega)).trans S0.out.2.2.2.1, (hb.cell (by dsimp only; omega)).trans S0.out.2.2.2.2.1, (hb.cell (by dsimp only; omega)).trans S0.out.2.2.2.2.2.1, (hb.cell (by dsimp only; omega)).trans S0.out.2.2.2.2.2.2.1, (hb.cell (by dsimp only; omega)).trans S0.out.2.2.2.2.2.2.2.1⟩))
  refine wp_region_held_drew (S := (fun w' => w'.cell? ⟨w.heap.size, 0, none⟩ = some (.int .i64 (L : Int)) ∧ w'.cell? ⟨w.heap.size, 1, none⟩ = some (.slice Na ra.length nc) ∧ w'.cell? ⟨w.heap.size, 2, none⟩ = some (.slice Aa ra.length ac) ∧ w'.cell? ⟨w.heap.size, 3, none⟩ = some (.int .i64 (L : Int)) ∧ w'.cell? ⟨w.heap.size, 4, none⟩ = some (.slice Na' rb.length nc') ∧ w'.cell? ⟨w.heap.size, 5, none⟩ = some (.slice Aa' rb.length ac') ∧ w'.cell? ⟨w.heap.size + 1, 0, none⟩ = some (.int .i64 (i : Int)) ∧ w'.cell? ⟨w.heap.size + 1, 1, none⟩ = some (.int .i64 (j : Int)))) (by kernel_rfl) (HKp.out _ hr0.drew) (fun hHeld => ?_)
  refine take_d (i := 0) (d := some 7) (v := ?_) rfl rfl (by kernel_rfl) (by kernel_rfl) (by kernel_rfl) (fun _ _ _ h => h) (Or.inl ⟨by first | rfl | (simp [*, Region.wanted, yielded]), ?hyq1⟩) (by assumption) ?restq1
  case hyq1 => (intro w hSw; (try dsimp only at hSw); go_simp <;> with_reducible rfl)
  try simp only [Act.put, List.setIfInBounds_toArray, List.set_cons_zero, List.set_cons_succ]
  refine take_d (i := 1) (d := some 8) (v := ?_) rfl rfl (by kernel_rfl) (by kernel_rfl) (by kernel_rfl) (fun _ _ _ h => h) (Or.inl ⟨by first | rfl | (simp [*, Region.wanted, yielded]), ?hyq2⟩) (by assumption) ?restq2
  case hyq2 => (intro w hSw; (try dsimp only at hSw); go_simp <;> with_reducible rfl)
  try simp only [Act.put, List.setIfInBounds_toArray, List.set_cons_zero, List.set_cons_succ]
  refine take_d (i := 2) (d := some 9) (v := ?_) rfl rfl (by kernel_rfl) (by kernel_rfl) (by kernel_rfl) (fun _ _ _ h => h) (Or.inl ⟨by first | rfl | (simp [*, Region.wanted, yielded]), ?hyq3⟩) (by assumption) ?restq3
  case hyq3 => (intro w hSw; (try dsimp only at hSw); go_simp <;> with_reducible rfl)
  try simp only [Act.put, List.setIfInBounds_toArray, List.set_cons_zero, List.set_cons_succ]
  refine take_d (i := 3) (d := some 10) (v := ?_) rfl rfl (by kernel_rfl) (by kernel_rfl) (by kernel_rfl) (fun _ _ _ h => h) (Or.inl ⟨by first | rfl | (simp [*, Region.wanted, yielded]), ?hyq4⟩) (by assumption) ?restq4
  case hyq4 => (intro w hSw; (try dsimp only at hSw); go_simp <;> with_reducible rfl)
  try simp only [Act.put, List.setIfInBounds_toArray, List.set_cons_zero, List.set_cons_succ]
  refine take_d (i := 4) (d := some 11) (v := ?_) rfl rfl (by kernel_rfl) (by kernel_rfl) (by kernel_rfl) (fun _ _ _ h => h) (Or.inl ⟨by first | rfl | (simp [*, Region.wanted, yielded]), ?hyq5⟩) (by assumption) ?restq5
  case hyq5 => (intro w hSw; (try dsimp only at hSw); go_simp <;> with_reducible rfl)
  try simp only [Act.put, List.setIfInBounds_toArray, List.set_cons_zero, List.set_cons_succ]
  refine take_d (i := 6) (d := some 13) (v := ?_) rfl rfl (by kernel_rfl) (by kernel_rfl) (by kernel_rfl) (fun _ _ _ h => h) (Or.inl ⟨by first | rfl | (simp [*, Region.wanted, yielded]), ?hyq6⟩) (by assumption) ?restq6
  case hyq6 => (intro w hSw; (try dsimp only at hSw); go_simp <;> with_reducible rfl)
  try simp only [Act.put, List.setIfInBounds_toArray, List.set_cons_zero, List.set_cons_succ]
  refine take_d (i := 7) (d := some 14) (v := ?_) rfl rfl (by kernel_rfl) (by kernel_rfl) (by kernel_rfl) (fun _ _ _ h => h) (Or.inl ⟨by first | rfl | (simp [*, Region.wanted, yielded]), ?hyq7⟩) (by assumption) ?restq7
  case hyq7 => (intro w hSw; (try dsimp only at hSw); go_simp <;> with_reducible rfl)
  try simp only [Act.put, List.setIfInBounds_toArray, List.set_cons_zero, List.set_cons_succ]
  refine take_d (i := 8) (d := some 15) (v := ?_) rfl rfl (by kernel_rfl) (by kernel_rfl) (by kernel_rfl) (fun _ _ _ h => h) (Or.inl ⟨by first | rfl | (simp [*, Region.wanted, yielded]), ?hyq8⟩) (by assumption) ?restq8
  case hyq8 => (intro w hSw; (try dsimp only at hSw); go_simp <;> with_reducible rfl)
  try simp only [Act.put, List.setIfInBounds_toArray, List.set_cons_zero, List.set_cons_succ]
  refine take_d (i := 9) (d := some 16) (v := ?_) rfl rfl (by kernel_rfl) (by kernel_rfl) (by kernel_rfl) (fun _ _ _ h => h) (Or.inl ⟨by first | rfl | (simp [*, Region.wanted, yielded]), ?hyq9⟩) (by assumption) ?restq9
  case hyq9 => (intro w hSw; (try dsimp only at hSw); go_simp <;> with_reducible rfl)
  try simp only [Act.put, List.setIfInBounds_toArray, List.set_cons_zero, List.set_cons_succ]
  refine take_d (i := 10) (d := some 17) (v := ?_) rfl rfl (by kernel_rfl) (by kernel_rfl) (by kernel_rfl) (fun _ _ _ h => h) (Or.inl ⟨by first | rfl | (simp [*, Region.wanted, yielded]), ?hyq10⟩) (by assumption) ?restq10
  case hyq10 => (intro w hSw; (try dsimp only at hSw); go_simp <;> with_reducible rfl)
  try simp only [Act.put, List.setIfInBounds_toArray, List.set_cons_zero, List.set_cons_succ]
  refine wpAnyH_ready (rs := [5]) (by kernel_rfl) (by simp) ?_
  refine AllReadyH.cons (o := _) rfl (fun K hK => ?_) AllReadyH.nil
  go_simp
  go_at_call 71
  refine (HN.out _ (hr0.drew)).mono ?_
  rintro e5 w5 ⟨hb5, rfl⟩
  have p5 : Below w0.heap.size w0 w5 := (hr0.drew).trans (hb5.mono (hr0.drew).size)
  have q0 := (p5.cell (cell_lt HR.out.1)).trans HR.out.1
  have q1 := (p5.cell (cell_lt HR.out.2.1)).trans HR.out.2.1
  have qf5 : ∀ o, w5.frozen? ⟨w.heap.size + 1 + 1, o, none⟩ = false := fun o => (p5.frozen (p := ⟨w.heap.size + 1 + 1, o, none⟩) (by have := HS.out; dsimp only; omega)).trans (HR.out.2.2 o)
  have qf0 := qf5 0
  have qf1 := qf5 1
  go_wp2_with fail
  refine hK.out _ _ (HKp.out _ p5) (fun hHeld => ?_)
  clear hK K
  try simp only [Act.put, List.setIfInBounds_toArray, List.set_cons_zero, List.set_cons_succ]
  refine wpAnyH_ready (rs := [11]) (by kernel_rfl) (by simp) ?_
  refine AllReadyH.cons (o := _) rfl (fun K hK => ?_) AllReadyH.nil
  go_simp
  go_at_call 71
  refine (HN'.out _ (p5)).mono ?_
  rintro e11 w11 ⟨hb11, rfl⟩
  have p11 : Below w0.heap.size w0 w11 := (p5).trans (hb11.mono (p5).size)
  have q0 := (p11.cell (cell_lt HR.out.1)).trans HR.out.1
  have q1 := (p11.cell (cell_lt HR.out.2.1)).trans HR.out.2.1
  have qf11 : ∀ o, w11.frozen? ⟨w.heap.size + 1 + 1, o, none⟩ = false := fun o => (p11.frozen (p := ⟨w.heap.size + 1 + 1, o, none⟩) (by have := HS.out; dsimp only; omega)).trans (HR.out.2.2 o)
  have qf0 := qf11 0
  have qf1 := qf11 1
  go_wp2_with fail
  refine hK.out _ _ (HKp.out _ p11) (fun hHeld => ?_)
  clear hK K
  try simp only [Act.put, List.setIfInBounds_toArray, List.set_cons_zero, List.set_cons_succ]
  refine take_d (i := 12) (d := some 19) (v := ?_) rfl rfl (by kernel_rfl) (by kernel_rfl) (by kernel_rfl) (fun _ _ _ h => h) (Or.inl ⟨by first | rfl | (simp [*, Region.wanted, yielded]), ?hyq11⟩) (by assumption) ?restq11
  case hyq11 => (intro w hSw; (try dsimp only at hSw); go_simp <;> with_reducible rfl)
  try simp only [Act.put, List.setIfInBounds_toArray, List.set_cons_zero, List.set_cons_succ]
  refine wpAnyH_ready (rs := [13]) (by kernel_rfl) (by simp) ?_
  refine AllReadyH.cons (o := _) rfl (fun K hK => ?_) AllReadyH.nil
  go_simp
  go_wp2_with fail
  refine hK.out _ _ (HKq.out _ (by repeat (first | exact (p11.mono (by have := HS.out; omega)) | apply Below.drew | (refine Below.setCell ?_ (by first | exact Nat.le_refl _ | omega | (simp; done) | (simp; omega)) _)))) (fun hHeld => ?_)
  clear hK K
  try simp only [Act.put, List.setIfInBounds_toArray, List.set_cons_zero, List.set_cons_succ]
  refine wpAnyH_done (by kernel_rfl) ?_ _
  go_simp
  go_wp2
  have t0 : ((w11.setCell ⟨w.heap.size + 1 + 1, 0, none⟩ (.int .i64 (x : Int))).setCell ⟨w.heap.size + 1 + 1, 1, none⟩ (.int .i64 (y : Int))).cell? ⟨w.heap.size + 1 + 1, 0, none⟩ = some (.int .i64 (x : Int)) := by go_simp
  have t1 : ((w11.setCell ⟨w.heap.size + 1 + 1, 0, none⟩ (.int .i64 (x : Int))).setCell ⟨w.heap.size + 1 + 1, 1, none⟩ (.int .i64 (y : Int))).cell? ⟨w.heap.size + 1 + 1, 1, none⟩ = some (.int .i64 (y : Int)) := by go_simp
  have hbz := hid ((HB.out.trans (p11.mono HB.out.size)).setCell (p := ⟨w.heap.size + 1 + 1, 0, none⟩) (by dsimp only; omega) (.int .i64 (x : Int)))
  have hbz := hid (hbz.out.setCell (p := ⟨w.heap.size + 1 + 1, 1, none⟩) (by dsimp only; omega) (.int .i64 (y : Int)))
  refine bodyPost_ret (v := .agg #[.int .i64 (x : Int), .int .i64 (y : Int)]) (by simp [results, Try.results125, go_sem, t0, t1]) rfl ⟨hbz.out, by rw [HXe.out, HYe.out]⟩
set_option maxRecDepth 100000 in
set_option maxHeartbeats 4000000 in
theorem twBoth_any (i j : Nat) (w : World) (h : MachAt w Na ra Aa aa) (h' : MachAt w Na' rb Aa' ab) (hg : GoodM L ra aa) (hg' : GoodM L rb ab) (hi : i < ra.length) (hj : j < rb.length) :
    Calls Try.prog 87 #[twV L Na ra.length nc Aa ac Na' rb.length nc' Aa' ac', .agg #[.int .i64 (i : Int), .int .i64 (j : Int)]] w fun e w' => Below w.heap.size w w' ∧ e = .returned (.bool (mA aa i && mA ab j)) := by
  have hB : Below w.heap.size w ((w.alloc (.cells #[.int .i64 (L : Int), .slice Na ra.length nc, .slice Aa ra.length ac, .int .i64 (L : Int), .slice Na' rb.length nc', .slice Aa' rb.length ac'] 83)).alloc (.cells #[.int .i64 (i : Int), .int .i64 (j : Int)] 84)) := ((Below.refl _ _).alloc (Nat.le_refl _) _).alloc (by simp) _
  have HB := hid hB
  have hc := hg.acc
  have hc' := hg'.acc
  have HA := hid (fun wx (hb : Below w.heap.size w wx) => accepts_any L i nc ac ra.length ra.length Na Aa ra aa wx (h.below hb) (by rw [hc]; exact hi) hc.symm)
  have HA' := hid (fun wx (hb : Below w.heap.size w wx) => accepts_any L j nc' ac' rb.length rb.length Na' Aa' rb ab wx (h'.below hb) (by rw [hc']; exact hj) hc'.symm)
  have s0 : ((w.alloc (.cells #[.int .i64 (L : Int), .slice Na ra.length nc, .slice Aa ra.length ac, .int .i64 (L : Int), .slice Na' rb.length nc', .slice Aa' rb.length ac'] 83)).alloc (.cells #[.int .i64 (i : Int), .int .i64 (j : Int)] 84)).cell? ⟨w.heap.size + 1, 1, none⟩ = some (.int .i64 (j : Int)) := by go_simp
  have s3 : ((w.alloc (.cells #[.int .i64 (L : Int), .slice Na ra.length nc, .slice Aa ra.length ac, .int .i64 (L : Int), .slice Na' rb.length nc', .slice Aa' rb.length ac'] 83)).alloc (.cells #[.int .i64 (i : Int), .int .i64 (j : Int)] 84)).cell? ⟨w.heap.size, 3, none⟩ = some (.int .i64 (L : Int)) := by go_simp
  have s4 : ((w.alloc (.cells #[.int .i64 (L : Int), .slice Na ra.length nc, .slice Aa ra.length ac, .int .i64 (L : Int), .slice Na' rb.length nc', .slice Aa' rb.length ac'] 83)).alloc (.cells #[.int .i64 (i : Int), .int .i64 (j : Int)] 84)).cell? ⟨w.heap.size, 4, none⟩ = some (.slice Na' rb.length nc') := by go_simp
  have s5 : ((w.alloc (.cells #[.int .i64 (L : Int), .slice Na ra.length nc, .slice Aa ra.length ac, .int .i64 (L : Int), .slice Na' rb.length nc', .slice Aa' rb.length ac'] 83)).alloc (.cells #[.int .i64 (i : Int), .int .i64 (j : Int)] 84)).cell? ⟨w.heap.size, 5, none⟩ = some (.slice Aa' rb.length ac') := by go_simp
  unfold twV
  unfold machV at HA HA'
  clear h h' hg hg' hc hc' hB
  generalize hx : mA aa i = x at *
  generalize hy : mA ab j = y at *
  have HX := hid hx
  have HY := hid hy
  clear hx hy
  go_enter Try.func87, Try.ntmps87
  go_wp2_with fail
  refine (HA.out _ HB.out).mono ?_
  rintro e w1 ⟨hw1, rfl⟩
  have hb1 : Below ((w.alloc (.cells #[.int .i64 (L : Int), .slice Na ra.length nc, .slice Aa ra.length ac, .int .i64 (L : Int), .slice Na' rb.length nc', .slice Aa' rb.length ac'] 83)).alloc (.cells #[.int .i64 (i : Int), .int .i64 (j : Int)] 84)).heap.size ((w.alloc (.cells #[.int .i64 (L : Int), .slice Na ra.length nc, .slice Aa ra.length ac, .int .i64 (L : Int), .slice Na' rb.length nc', .slice Aa' rb.length ac'] 83)).alloc (.cells #[.int .i64 (i : Int), .int .i64 (j : Int)] 84)) w1 := by rw [hw1]; exact (Below.refl _ _).alloc (Nat.le_refl _) _
  clear hw1
  have s0 := (hb1.cell (cell_lt s0)).trans s0
  have s3 := (hb1.cell (cell_lt s3)).trans s3
  have s4 := (hb1.cell (cell_lt s4)).trans s4
  have s5 := (hb1.cell (cell_lt s5)).trans s5
  have HB1 := hid (HB.out.trans (hb1.mono HB.out.size))
  clear hb1 HA
  cases x
  · go_wp2
    go_ret
    exact ⟨HB1.out, by first | rfl | (rw [HX.out]; rfl) | simp⟩
  · go_wp2_with fail
    refine (HA'.out _ HB1.out).mono ?_
    rintro e w2 ⟨rfl, rfl⟩
    have HB2 := hid (HB1.out.alloc HB1.out.size (machO L Na' rb.length nc' Aa' rb.length ac'))
    go_wp2
    go_ret
    exact ⟨HB2.out, by first | rfl | (rw [HX.out, HY.out]; rfl) | simp⟩
set_option maxRecDepth 100000 in
set_option maxHeartbeats 4000000 in
theorem twEither_any (i j : Nat) (w : World) (h : MachAt w Na ra Aa aa) (h' : MachAt w Na' rb Aa' ab) (hg : GoodM L ra aa) (hg' : GoodM L rb ab) (hi : i < ra.length) (hj : j < rb.length) :
    Calls Try.prog 90 #[twV L Na ra.length nc Aa ac Na' rb.length nc' Aa' ac', .agg #[.int .i64 (i : Int), .int .i64 (j : Int)]] w fun e w' => Below w.heap.size w w' ∧ e = .returned (.bool (mA aa i || mA ab j)) := by
  have hB : Below w.heap.size w ((w.alloc (.cells #[.int .i64 (L : Int), .slice Na ra.length nc, .slice Aa ra.length ac, .int .i64 (L : Int), .slice Na' rb.length nc', .slice Aa' rb.length ac'] 83)).alloc (.cells #[.int .i64 (i : Int), .int .i64 (j : Int)] 84)) := ((Below.refl _ _).alloc (Nat.le_refl _) _).alloc (by simp) _
  have HB := hid hB
  have hc := hg.acc
  have hc' := hg'.acc
  have HA := hid (fun wx (hb : Below w.heap.size w wx) => accepts_any L i nc ac ra.length ra.length Na Aa ra aa wx (h.below hb) (by rw [hc]; exact hi) hc.symm)
  have HA' := hid (fun wx (hb : Below w.heap.size w wx) => accepts_any L j nc' ac' rb.length rb.length Na' Aa' rb ab wx (h'.below hb) (by rw [hc']; exact hj) hc'.symm)
  have s0 : ((w.alloc (.cells #[.int .i64 (L : Int), .slice Na ra.length nc, .slice Aa ra.length ac, .int .i64 (L : Int), .slice Na' rb.length nc', .slice Aa' rb.length ac'] 83)).alloc (.cells #[.int .i64 (i : Int), .int .i64 (j : Int)] 84)).cell? ⟨w.heap.size + 1, 1, none⟩ = some (.int .i64 (j : Int)) := by go_simp
  have s3 : ((w.alloc (.cells #[.int .i64 (L : Int), .slice Na ra.length nc, .slice Aa ra.length ac, .int .i64 (L : Int), .slice Na' rb.length nc', .slice Aa' rb.length ac'] 83)).alloc (.cells #[.int .i64 (i : Int), .int .i64 (j : Int)] 84)).cell? ⟨w.heap.size, 3, none⟩ = some (.int .i64 (L : Int)) := by go_simp
  have s4 : ((w.alloc (.cells #[.int .i64 (L : Int), .slice Na ra.length nc, .slice Aa ra.length ac, .int .i64 (L : Int), .slice Na' rb.length nc', .slice Aa' rb.length ac'] 83)).alloc (.cells #[.int .i64 (i : Int), .int .i64 (j : Int)] 84)).cell? ⟨w.heap.size, 4, none⟩ = some (.slice Na' rb.length nc') := by go_simp
  have s5 : ((w.alloc (.cells #[.int .i64 (L : Int), .slice Na ra.length nc, .slice Aa ra.length ac, .int .i64 (L : Int), .slice Na' rb.length nc', .slice Aa' rb.length ac'] 83)).alloc (.cells #[.int .i64 (i : Int), .int .i64 (j : Int)] 84)).cell? ⟨w.heap.size, 5, none⟩ = some (.slice Aa' rb.length ac') := by go_simp
  unfold twV
  unfold machV at HA HA'
  clear h h' hg hg' hc hc' hB
  generalize hx : mA aa i = x at *
  generalize hy : mA ab j = y at *
  have HX := hid hx
  have HY := hid hy
  clear hx hy
  go_enter Try.func90, Try.ntmps90
  go_wp2_with fail
  refine (HA.out _ HB.out).mono ?_
  rintro e w1 ⟨hw1, rfl⟩
  have hb1 : Below ((w.alloc (.cells #[.int .i64 (L : Int), .slice Na ra.length nc, .slice Aa ra.length ac, .int .i64 (L : Int), .slice Na' rb.length nc', .slice Aa' rb.length ac'] 83)).alloc (.cells #[.int .i64 (i : Int), .int .i64 (j : Int)] 84)).heap.size ((w.alloc (.cells #[.int .i64 (L : Int), .slice Na ra.length nc, .slice Aa ra.length ac, .int .i64 (L : Int), .slice Na' rb.length nc', .slice Aa' rb.length ac'] 83)).alloc (.cells #[.int .i64 (i : Int), .int .i64 (j : Int)] 84)) w1 := by rw [hw1]; exact (Below.refl _ _).alloc (Nat.le_refl _) _
  clear hw1
  have s0 := (hb1.cell (cell_lt s0)).trans s0
  have s3 := (hb1.cell (cell_lt s3)).trans s3
  have s4 := (hb1.cell (cell_lt s4)).trans s4
  have s5 := (hb1.cell (cell_lt s5)).trans s5
  have HB1 := hid (HB.out.trans (hb1.mono HB.out.size))
  clear hb1 HA
  cases x
  · go_wp2_with fail
    refine (HA'.out _ HB1.out).mono ?_
    rintro e w2 ⟨rfl, rfl⟩
    have HB2 := hid (HB1.out.alloc HB1.out.size (machO L Na' rb.length nc' Aa' rb.length ac'))
    go_wp2
    go_ret
    exact ⟨HB2.out, by first | rfl | (rw [HX.out, HY.out]; rfl) | simp⟩
  · go_wp2
    go_ret
    exact ⟨HB1.out, by first | rfl | (rw [HX.out]; rfl) | simp⟩
end
end Go.Proofs.Ytkboeldafppicaa
