/- A shortest tour, its contract: package van. -/
import Derived.Test.YtbffdpcogfmomaaVaTour2
set_option linter.unusedVariables false
namespace Go.Proofs.Ytbffdpcogfmomaa
open Go.RowKit

set_option maxRecDepth 100000 in
set_option maxHeartbeats 8000000 in
theorem vTour_any (a : Option Addr) (t : Tbl) (cap : Nat) (w : World) (h : TabAt w a t) : Calls Try.prog 26 #[.slice a t.length cap] w (TourR t w) := by
  obtain ⟨x0, x1, xb, xs⟩ := alloc2 w (.cells #[.slice a t.length cap] 22) (.cells #[.slice none 0 0] 23)
  have hT := h.below xb
  have HX0 := hid x0
  have HX1 := hid x1
  have HXB := hid xb
  have HTb := hid hT
  have HV := hid (vValidate_any a t cap _ hT)
  have k0 := one_cell x0
  have k1 := one_cell x1
  have f1 := one_free x1 0
  clear h hT x0 x1 xb
  by_cases hv : vaV t = 0
  · have ht := (ways_iff t).1 hv
    have hl7 := ht.len
    have hpos := ht.pos
    rw [hv] at HV
    have HE := hid hv
    have HT := hid ht
    clear hv ht
    go_enter_defers Try.func26, Try.ntmps26
    go_wp2_with fail
    generalize ((w.alloc (.cells #[.slice a t.length cap] 22)).alloc (.cells #[.slice none 0 0] 23)) = w1 at *
    refine HV.out.mono ?_
    rintro e w2 ⟨hb2, rfl⟩
    have hl0 := cell_lt k0
    have hl1 := cell_lt k1
    have j0 := (hb2.cell hl0).trans k0
    have j1 := (hb2.cell hl1).trans k1
    have g1 := (hb2.frozen hl1).trans f1
    have HB2 := hid hb2
    have HTb2 := hid (HTb.out.below hb2)
    clear hb2 k0 k1 f1 HV
    go_wp2_with fail
    have HKp := hid (fun (W : World) (hb : Below w2.heap.size w2 W) => show W.cell? ⟨w.heap.size, 0, none⟩ = some (.slice a t.length cap) from (hb.cell (cell_lt j0)).trans j0)
    have HLe := hid (fun (W : World) (hb : Below w2.heap.size w2 W) => vLeast_any a t cap W (HTb2.out.below hb) HT.out)
    have HSe := hid (fun (W : World) (en : Int) (hb : Below w2.heap.size w2 W) (h1 : -50000 ≤ en ∧ en ≤ 50000) (h2 : ∀ o, IsTour o t.length → en ≤ tourL t o) => searchT HT.out (wb := w.heap.size) (cap := cap) HTb2.out j0 W en hb h1 h2)
    have hr : Below w2.heap.size w2 w2.drew := (Below.refl _ _).drew
    have HV1 := hid (show w2.heap[w.heap.size + 1]? = some (.cells #[.slice none 0 0] 23 (0, 0)) from (HB2.out.block _ hl1).trans HX1.out)
    have hl2 : w.heap.size + 1 < w2.heap.size := lt_block HV1.out
    refine wp_onPanic (fun ch a' w' => PanA (w.heap.size + 1) a' ∧ PanX t w2 (w.heap.size + 1) ch w') ?_ ?_
    · rintro ch a' w' ⟨⟨e1, e2, e3⟩, F, c, f, rfl, hb5, hG⟩
      show Leaves Try.prog Try.f26 a'.tmps (TourR t w) a'.defers _ w'
      rw [e1]
      have v5 := (hb5.block _ hl2).trans HV1.out
      refine leaves_cons (f := 61) (args := #[.pointer (some ⟨w.heap.size + 1, 0, none⟩)]) (by simp) (by simp [go_sem]) ?_
      refine (catch_panicking (w.heap.size + 1) (.slice none 0 0) F f.length c (tourL t f) w' (one_cell v5) (one_free v5 0)).mono ?_
      rintro e u' w'' ⟨rfl, rfl, rfl⟩
      have hal := (Below.refl w'.heap.size w').alloc (Nat.le_refl _) (.cells #[.slice F f.length c, .int .i64 (tourL t f)] 79)
      have v6 := (hal.block _ (lt_block v5)).trans v5
      refine ⟨_, results_c1 Try.results26 _ _ ⟨w.heap.size + 1, 0, none⟩ (.slice F f.length c) ?_ (load_var _ _ F f.length c ?_), ?_, .inr ⟨HE.out, F, c, f, ?_, ints_var (hG.1.below hal) v6 _, hG.2.1, hG.2.2⟩⟩
      · simp [e2]
      · exact one_cell (one_set v6)
      · refine HXB.out.trans (((HB2.out.trans (hb5.mono HB2.out.size)).mono (by omega)).trans ((hal.mono (by have := hb5.size; omega)).setCell (by simp) _))
      · simp [e3]
    refine wp_region_held_drew (S := (fun w' => w'.cell? ⟨w.heap.size, 0, none⟩ = some (.slice a t.length cap))) (by kernel_rfl) (HKp.out _ hr) (fun hHeld => ?_)
    refine take_d (i := 0) (d := some 14) (v := ?_) rfl rfl (by kernel_rfl) (by kernel_rfl) (by kernel_rfl) (fun _ _ _ h => unput (by decide) (by decide) h) (Or.inl ⟨by first | rfl | (simp [*, Region.wanted, yielded]), ?hy0x1⟩) (by assumption) ?rest0x1
    case hy0x1 => (intro w hSw; (try dsimp only at hSw); go_simp <;> with_reducible rfl)
    try simp only [Act.put, List.setIfInBounds_toArray, List.set_cons_zero, List.set_cons_succ]
    refine take_d (i := 1) (d := some 15) (v := ?_) rfl rfl (by kernel_rfl) (by kernel_rfl) (by kernel_rfl) (fun _ _ _ h => unput (by decide) (by decide) h) (Or.inl ⟨by first | rfl | (simp [*, Region.wanted, yielded]), ?hy1x2⟩) (by assumption) ?rest1x2
    case hy1x2 => (intro w hSw; (try dsimp only at hSw); go_simp <;> with_reducible rfl)
    try simp only [Act.put, List.setIfInBounds_toArray, List.set_cons_zero, List.set_cons_succ]
    refine take_d (i := 2) (d := some 16) (v := ?_) rfl rfl (by kernel_rfl) (by kernel_rfl) (by kernel_rfl) (fun _ _ _ h => unput (by decide) (by decide) h) (Or.inl ⟨by first | rfl | (simp [*, Region.wanted, yielded]), ?hy2x3⟩) (by assumption) ?rest2x3
    case hy2x3 => (intro w hSw; (try dsimp only at hSw); go_simp <;> with_reducible rfl)
    try simp only [Act.put, List.setIfInBounds_toArray, List.set_cons_zero, List.set_cons_succ]
    refine take_d (i := 4) (d := some 18) (v := ?_) rfl rfl (by kernel_rfl) (by kernel_rfl) (by kernel_rfl) (fun _ _ _ h => unput (by decide) (by decide) h) (Or.inl ⟨by first | rfl | (simp [*, Region.wanted, yielded]), ?hy4x4⟩) (by assumption) ?rest4x4
    case hy4x4 => (intro w hSw; (try dsimp only at hSw); go_simp <;> with_reducible rfl)
    try simp only [Act.put, List.setIfInBounds_toArray, List.set_cons_zero, List.set_cons_succ]
    refine wpAnyH_ready (rs := [3, 9]) (by kernel_rfl) (by simp) ?_
    refine AllReadyH.cons (o := _) rfl (fun K hK => ?_) (AllReadyH.cons (o := _) rfl (fun K hK => ?_) AllReadyH.nil)
    · go_simp
      refine (HLe.out _ hr).mono ?_
      rintro e w4 ⟨hb4, v0, rfl, hmin, hv1, hv2⟩
      have b4 : Below w2.heap.size w2 w4 := hr.trans (hb4.mono hr.size)
      go_wp2_with fail
      refine hK.out _ _ (HKp.out _ b4) (fun hHeld => ?_)
      clear hK K
      try simp only [Act.put, List.setIfInBounds_toArray, List.set_cons_zero, List.set_cons_succ]
      refine wpAnyH_ready (rs := [5, 9]) (by kernel_rfl) (by simp) ?_
      refine AllReadyH.cons (o := _) rfl (fun K hK => ?_) (AllReadyH.cons (o := _) rfl (fun K hK => ?_) AllReadyH.nil)
      · go_simp
        refine (HSe.out _ v0 b4 ⟨hv1, hv2⟩ hmin).mono ?_
        rintro e w5 (⟨F, c, f, rfl, hb5, hG, hfar⟩ | ⟨F, c, f, rfl, hb5, hG⟩)
        rotate_left
        · exact ⟨⟨rfl, rfl, rfl⟩, F, c, f, rfl, b4.trans (hb5.mono b4.size), hG⟩
        have b5 : Below w2.heap.size w2 w5 := b4.trans (hb5.mono b4.size)
        go_wp2_with fail
        refine hK.out _ _ (HKp.out _ b5) (fun hHeld => ?_)
        clear hK K
        try simp only [Act.put, List.setIfInBounds_toArray, List.set_cons_zero, List.set_cons_succ]
        refine take_d (i := 6) (d := some 13) (v := ?_) rfl rfl (by kernel_rfl) (by kernel_rfl) (by kernel_rfl) (fun _ _ _ h => unput (by decide) (by decide) h) (Or.inl ⟨by first | rfl | (simp [*, Region.wanted, yielded]), ?hy6x5⟩) (by assumption) ?rest6x5
        case hy6x5 => (intro w hSw; (try dsimp only at hSw); go_simp <;> with_reducible rfl)
        try simp only [Act.put, List.setIfInBounds_toArray, List.set_cons_zero, List.set_cons_succ]
        refine take_d (i := 7) (d := some 20) (v := ?_) rfl rfl (by kernel_rfl) (by kernel_rfl) (by kernel_rfl) (fun _ _ _ h => unput (by decide) (by decide) h) (Or.inl ⟨by first | rfl | (simp [*, Region.wanted, yielded]), ?hy7x6⟩) (by assumption) ?rest7x6
        case hy7x6 => (intro w hSw; (try dsimp only at hSw); go_simp <;> with_reducible rfl)
        try simp only [Act.put, List.setIfInBounds_toArray, List.set_cons_zero, List.set_cons_succ]
        refine take_d (i := 8) (d := some 21) (v := ?_) rfl rfl (by kernel_rfl) (by kernel_rfl) (by kernel_rfl) (fun _ _ _ h => unput (by decide) (by decide) h) (Or.inl ⟨by first | rfl | (simp [*, Region.wanted, yielded]), ?hy8x7⟩) (by assumption) ?rest8x7
        case hy8x7 => (intro w hSw; (try dsimp only at hSw); go_simp <;> with_reducible rfl)
        try simp only [Act.put, List.setIfInBounds_toArray, List.set_cons_zero, List.set_cons_succ]
        refine wpAnyH_ready (rs := [9]) (by kernel_rfl) (by simp) ?_
        refine AllReadyH.cons (o := _) rfl (fun K hK => ?_) AllReadyH.nil
        go_simp
        go_wp2_with fail
        refine hK.out _ _ (HKp.out _ (b5.alloc b5.size _)) (fun hHeld => ?_)
        clear hK K
        try simp only [Act.put, List.setIfInBounds_toArray, List.set_cons_zero, List.set_cons_succ]
        refine wpAnyH_ready (rs := [10]) (by kernel_rfl) (by simp) ?_
        refine AllReadyH.cons (o := _) rfl (fun K hK => ?_) AllReadyH.nil
        go_simp
        go_wp2_with fail
        have v5 := (b5.block _ hl2).trans HV1.out
        have hal5 := (Below.refl w5.heap.size w5).alloc (Nat.le_refl _) (.cells #[.slice F f.length c, .int .i64 (tourL t f)] 79)
        have bf : Below w2.heap.size w2 (w5.alloc (.cells #[.slice F f.length c, .int .i64 (tourL t f)] 79)) := b5.trans (hal5.mono b5.size)
        have gf : GoodT t (w5.alloc (.cells #[.slice F f.length c, .int .i64 (tourL t f)] 79)) F f := ⟨hG.1.below hal5, hG.2.1, hG.2.2⟩
        have kB := (two_cell (heap_alloc_new w5 (.cells #[.slice F f.length c, .int .i64 (tourL t f)] 79))).1
        have vf := (hal5.block _ (lt_block v5)).trans v5
        refine hK.out _ _ (HKp.out _ bf) (fun hHeld => ?_)
        clear hK K
        try simp only [Act.put, List.setIfInBounds_toArray, List.set_cons_zero, List.set_cons_succ]
        generalize (w5.alloc (.cells #[.slice F f.length c, .int .i64 (tourL t f)] 79)) = wf at *
        refine take_d (i := 11) (d := some 6) (v := ?_) rfl rfl (by kernel_rfl) (by kernel_rfl) (by kernel_rfl) (fun _ _ _ h => unput (by decide) (by decide) h) (Or.inl ⟨by first | rfl | (simp [*, Region.wanted, yielded]), ?hy11x8⟩) (by assumption) ?rest11x8
        case hy11x8 => (intro w hSw; (try dsimp only at hSw); go_simp <;> with_reducible rfl)
        try simp only [Act.put, List.setIfInBounds_toArray, List.set_cons_zero, List.set_cons_succ]
        have kW := one_cell vf
        have fW := one_free vf 0
        have HGf := hid gf
        have HBf := hid bf
        have HVf := hid vf
        clear gf bf vf
        refine wpAnyH_done (by kernel_rfl) ?_ _
        simp only [onPanic, Exit.then]
        generalize hTL : tourL t f = tl at *
        clear hTL
        go_wp2_with fail
        refine leaves_cons (f := 61) (args := #[.pointer (some ⟨w.heap.size + 1, 0, none⟩)]) (by simp) (by simp [go_sem]) ?_
        refine (catch_idle (w.heap.size + 1) _).mono ?_
        rintro e u' w'' ⟨rfl, rfl, rfl⟩
        have v6 := one_set (v := Value.slice F f.length c) HVf.out
        have hal := (Below.refl (wf.setCell ⟨w.heap.size + 1, 0, none⟩ (.slice F f.length c)).heap.size (wf.setCell ⟨w.heap.size + 1, 0, none⟩ (.slice F f.length c))).alloc (Nat.le_refl _) (.cells #[.slice none 0 0, .int .i64 0] 79)
        have v7 := (hal.block _ (lt_block v6)).trans v6
        refine ⟨_, results_c1 Try.results26 _ _ ⟨w.heap.size + 1, 0, none⟩ (.slice F f.length c) rfl (load_var _ _ F f.length c (one_cell v7)), ?_, .inr ⟨HE.out, F, c, f, rfl, (ints_var HGf.out.1 HVf.out _).below hal, HGf.out.2.1, HGf.out.2.2⟩⟩
        have hsf := HBf.out.size
        exact HXB.out.trans ((((HB2.out.trans (HBf.out.mono HB2.out.size)).mono (by omega)).setCell (by simp) _).trans (hal.mono (by have h1 := HB2.out.size; simp; omega)))
      · go_simp
        go_wp2_with fail
        refine hK.out _ _ (HKp.out _ (b4.alloc b4.size _)) (fun hHeld => ?_)
        clear hK K
        try simp only [Act.put, List.setIfInBounds_toArray, List.set_cons_zero, List.set_cons_succ]
        refine wpAnyH_ready (rs := [5]) (by kernel_rfl) (by simp) ?_
        refine AllReadyH.cons (o := _) rfl (fun K hK => ?_) AllReadyH.nil
        go_simp
        refine (HSe.out _ v0 (b4.alloc b4.size (.cells #[.slice none 0 0, .int .i64 0] 79)) ⟨hv1, hv2⟩ hmin).mono ?_
        rintro e w5 (⟨F, c, f, rfl, hb5, hG, hfar⟩ | ⟨F, c, f, rfl, hb5, hG⟩)
        rotate_left
        · exact ⟨⟨rfl, rfl, rfl⟩, F, c, f, rfl, (b4.alloc b4.size (.cells #[.slice none 0 0, .int .i64 0] 79)).trans (hb5.mono (b4.alloc b4.size (.cells #[.slice none 0 0, .int .i64 0] 79)).size), hG⟩
        have b5 : Below w2.heap.size w2 w5 := (b4.alloc b4.size (.cells #[.slice none 0 0, .int .i64 0] 79)).trans (hb5.mono (b4.alloc b4.size (.cells #[.slice none 0 0, .int .i64 0] 79)).size)
        have hX4 := b4.size
        have vB5 := (hb5.block w4.heap.size (by simp)).trans (heap_alloc_new w4 (.cells #[.slice none 0 0, .int .i64 0] 79))
        go_wp2_with fail
        refine hK.out _ _ (HKp.out _ b5) (fun hHeld => ?_)
        clear hK K
        try simp only [Act.put, List.setIfInBounds_toArray, List.set_cons_zero, List.set_cons_succ]
        refine take_d (i := 6) (d := some 13) (v := ?_) rfl rfl (by kernel_rfl) (by kernel_rfl) (by kernel_rfl) (fun _ _ _ h => unput (by decide) (by decide) h) (Or.inl ⟨by first | rfl | (simp [*, Region.wanted, yielded]), ?hy6x9⟩) (by assumption) ?rest6x9
        case hy6x9 => (intro w hSw; (try dsimp only at hSw); go_simp <;> with_reducible rfl)
        try simp only [Act.put, List.setIfInBounds_toArray, List.set_cons_zero, List.set_cons_succ]
        refine take_d (i := 7) (d := some 20) (v := ?_) rfl rfl (by kernel_rfl) (by kernel_rfl) (by kernel_rfl) (fun _ _ _ h => unput (by decide) (by decide) h) (Or.inl ⟨by first | rfl | (simp [*, Region.wanted, yielded]), ?hy7x10⟩) (by assumption) ?rest7x10
        case hy7x10 => (intro w hSw; (try dsimp only at hSw); go_simp <;> with_reducible rfl)
        try simp only [Act.put, List.setIfInBounds_toArray, List.set_cons_zero, List.set_cons_succ]
        refine take_d (i := 8) (d := some 21) (v := ?_) rfl rfl (by kernel_rfl) (by kernel_rfl) (by kernel_rfl) (fun _ _ _ h => unput (by decide) (by decide) h) (Or.inl ⟨by first | rfl | (simp [*, Region.wanted, yielded]), ?hy8x11⟩) (by assumption) ?rest8x11
        case hy8x11 => (intro w hSw; (try dsimp only at hSw); go_simp <;> with_reducible rfl)
        try simp only [Act.put, List.setIfInBounds_toArray, List.set_cons_zero, List.set_cons_succ]
        refine wpAnyH_ready (rs := [10]) (by kernel_rfl) (by simp) ?_
        refine AllReadyH.cons (o := _) rfl (fun K hK => ?_) AllReadyH.nil
        have v5 := (b5.block _ hl2).trans HV1.out
        have kb0 := (two_cell vB5).1
        have kb1 := (two_cell vB5).2
        have fb := one_free vB5
        go_simp
        go_wp2_with fail
        have hk5 : Keep3 (w4.heap.size) (w4.heap.size) (w4.heap.size) w5 ((w5.setCell ⟨w4.heap.size, 0, none⟩ (.slice F f.length c)).setCell ⟨w4.heap.size, 1, none⟩ (.int .i64 (tourL t f))) := ((Keep3.refl (w4.heap.size) (w4.heap.size) (w4.heap.size) w5).set ⟨w4.heap.size, 0, none⟩ (.slice F f.length c) (.inl rfl)).set ⟨w4.heap.size, 1, none⟩ (.int .i64 (tourL t f)) (.inl rfl)
        have bf : Below w2.heap.size w2 ((w5.setCell ⟨w4.heap.size, 0, none⟩ (.slice F f.length c)).setCell ⟨w4.heap.size, 1, none⟩ (.int .i64 (tourL t f))) := b5.trans (hk5.below (by omega) (by omega) (by omega) b5.size)
        have gf : GoodT t ((w5.setCell ⟨w4.heap.size, 0, none⟩ (.slice F f.length c)).setCell ⟨w4.heap.size, 1, none⟩ (.int .i64 (tourL t f))) F f := ⟨hG.1.keep3 hk5 (fun ad had => by have h9 := hfar ad had; (try simp only [World.size_alloc] at h9); exact ⟨by omega, by omega, by omega⟩), hG.2.1, hG.2.2⟩
        have kB : ((w5.setCell ⟨w4.heap.size, 0, none⟩ (.slice F f.length c)).setCell ⟨w4.heap.size, 1, none⟩ (.int .i64 (tourL t f))).cell? ⟨w4.heap.size, 0, none⟩ = some (.slice F f.length c) := (two_cell (two_set vB5)).1
        have vf := (hk5.block _ (lt_block v5) (by omega) (by omega) (by omega)).trans v5
        refine hK.out _ _ (HKp.out _ bf) (fun hHeld => ?_)
        clear hK K kb0 kb1 fb
        try simp only [Act.put, List.setIfInBounds_toArray, List.set_cons_zero, List.set_cons_succ]
        generalize ((w5.setCell ⟨w4.heap.size, 0, none⟩ (.slice F f.length c)).setCell ⟨w4.heap.size, 1, none⟩ (.int .i64 (tourL t f))) = wf at *
        refine take_d (i := 11) (d := some 6) (v := ?_) rfl rfl (by kernel_rfl) (by kernel_rfl) (by kernel_rfl) (fun _ _ _ h => unput (by decide) (by decide) h) (Or.inl ⟨by first | rfl | (simp [*, Region.wanted, yielded]), ?hy11x12⟩) (by assumption) ?rest11x12
        case hy11x12 => (intro w hSw; (try dsimp only at hSw); go_simp <;> with_reducible rfl)
        try simp only [Act.put, List.setIfInBounds_toArray, List.set_cons_zero, List.set_cons_succ]
        have kW := one_cell vf
        have fW := one_free vf 0
        have HGf := hid gf
        have HBf := hid bf
        have HVf := hid vf
        clear gf bf vf
        refine wpAnyH_done (by kernel_rfl) ?_ _
        simp only [onPanic, Exit.then]
        generalize hTL : tourL t f = tl at *
        clear hTL
        go_wp2_with fail
        refine leaves_cons (f := 61) (args := #[.pointer (some ⟨w.heap.size + 1, 0, none⟩)]) (by simp) (by simp [go_sem]) ?_
        refine (catch_idle (w.heap.size + 1) _).mono ?_
        rintro e u' w'' ⟨rfl, rfl, rfl⟩
        have v6 := one_set (v := Value.slice F f.length c) HVf.out
        have hal := (Below.refl (wf.setCell ⟨w.heap.size + 1, 0, none⟩ (.slice F f.length c)).heap.size (wf.setCell ⟨w.heap.size + 1, 0, none⟩ (.slice F f.length c))).alloc (Nat.le_refl _) (.cells #[.slice none 0 0, .int .i64 0] 79)
        have v7 := (hal.block _ (lt_block v6)).trans v6
        refine ⟨_, results_c1 Try.results26 _ _ ⟨w.heap.size + 1, 0, none⟩ (.slice F f.length c) rfl (load_var _ _ F f.length c (one_cell v7)), ?_, .inr ⟨HE.out, F, c, f, rfl, (ints_var HGf.out.1 HVf.out _).below hal, HGf.out.2.1, HGf.out.2.2⟩⟩
        have hsf := HBf.out.size
        exact HXB.out.trans ((((HB2.out.trans (HBf.out.mono HB2.out.size)).mono (by omega)).setCell (by simp) _).trans (hal.mono (by have h1 := HB2.out.size; simp; omega)))
    · go_simp
      go_wp2_with fail
      refine hK.out _ _ (HKp.out _ (hr.alloc hr.size _)) (fun hHeld => ?_)
      clear hK K
      try simp only [Act.put, List.setIfInBounds_toArray, List.set_cons_zero, List.set_cons_succ]
      refine wpAnyH_ready (rs := [3]) (by kernel_rfl) (by simp) ?_
      refine AllReadyH.cons (o := _) rfl (fun K hK => ?_) AllReadyH.nil
      go_simp
      refine (HLe.out _ (hr.alloc hr.size (.cells #[.slice none 0 0, .int .i64 0] 79))).mono ?_
      rintro e w4 ⟨hb4, v0, rfl, hmin, hv1, hv2⟩
      have b4 : Below w2.heap.size w2 w4 := (hr.alloc hr.size (.cells #[.slice none 0 0, .int .i64 0] 79)).trans (hb4.mono (hr.alloc hr.size (.cells #[.slice none 0 0, .int .i64 0] 79)).size)
      have vB4 := (hb4.block w2.heap.size (by simp)).trans (heap_alloc_new w2.drew (.cells #[.slice none 0 0, .int .i64 0] 79))
      have hX4 : w2.heap.size < w4.heap.size := lt_block vB4
      go_wp2_with fail
      refine hK.out _ _ (HKp.out _ b4) (fun hHeld => ?_)
      clear hK K
      try simp only [Act.put, List.setIfInBounds_toArray, List.set_cons_zero, List.set_cons_succ]
      refine wpAnyH_ready (rs := [5]) (by kernel_rfl) (by simp) ?_
      refine AllReadyH.cons (o := _) rfl (fun K hK => ?_) AllReadyH.nil
      go_simp
      refine (HSe.out _ v0 b4 ⟨hv1, hv2⟩ hmin).mono ?_
      rintro e w5 (⟨F, c, f, rfl, hb5, hG, hfar⟩ | ⟨F, c, f, rfl, hb5, hG⟩)
      rotate_left
      · exact ⟨⟨rfl, rfl, rfl⟩, F, c, f, rfl, b4.trans (hb5.mono b4.size), hG⟩
      have b5 : Below w2.heap.size w2 w5 := b4.trans (hb5.mono b4.size)
      have vB5 := (hb5.block w2.heap.size hX4).trans vB4
      go_wp2_with fail
      refine hK.out _ _ (HKp.out _ b5) (fun hHeld => ?_)
      clear hK K
      try simp only [Act.put, List.setIfInBounds_toArray, List.set_cons_zero, List.set_cons_succ]
      refine take_d (i := 6) (d := some 13) (v := ?_) rfl rfl (by kernel_rfl) (by kernel_rfl) (by kernel_rfl) (fun _ _ _ h => unput (by decide) (by decide) h) (Or.inl ⟨by first | rfl | (simp [*, Region.wanted, yielded]), ?hy6x13⟩) (by assumption) ?rest6x13
      case hy6x13 => (intro w hSw; (try dsimp only at hSw); go_simp <;> with_reducible rfl)
      try simp only [Act.put, List.setIfInBounds_toArray, List.set_cons_zero, List.set_cons_succ]
      refine take_d (i := 7) (d := some 20) (v := ?_) rfl rfl (by kernel_rfl) (by kernel_rfl) (by kernel_rfl) (fun _ _ _ h => unput (by decide) (by decide) h) (Or.inl ⟨by first | rfl | (simp [*, Region.wanted, yielded]), ?hy7x14⟩) (by assumption) ?rest7x14
      case hy7x14 => (intro w hSw; (try dsimp only at hSw); go_simp <;> with_reducible rfl)
      try simp only [Act.put, List.setIfInBounds_toArray, List.set_cons_zero, List.set_cons_succ]
      refine take_d (i := 8) (d := some 21) (v := ?_) rfl rfl (by kernel_rfl) (by kernel_rfl) (by kernel_rfl) (fun _ _ _ h => unput (by decide) (by decide) h) (Or.inl ⟨by first | rfl | (simp [*, Region.wanted, yielded]), ?hy8x15⟩) (by assumption) ?rest8x15
      case hy8x15 => (intro w hSw; (try dsimp only at hSw); go_simp <;> with_reducible rfl)
      try simp only [Act.put, List.setIfInBounds_toArray, List.set_cons_zero, List.set_cons_succ]
      refine wpAnyH_ready (rs := [10]) (by kernel_rfl) (by simp) ?_
      refine AllReadyH.cons (o := _) rfl (fun K hK => ?_) AllReadyH.nil
      have v5 := (b5.block _ hl2).trans HV1.out
      have kb0 := (two_cell vB5).1
      have kb1 := (two_cell vB5).2
      have fb := one_free vB5
      go_simp
      go_wp2_with fail
      have hk5 : Keep3 (w2.heap.size) (w2.heap.size) (w2.heap.size) w5 ((w5.setCell ⟨w2.heap.size, 0, none⟩ (.slice F f.length c)).setCell ⟨w2.heap.size, 1, none⟩ (.int .i64 (tourL t f))) := ((Keep3.refl (w2.heap.size) (w2.heap.size) (w2.heap.size) w5).set ⟨w2.heap.size, 0, none⟩ (.slice F f.length c) (.inl rfl)).set ⟨w2.heap.size, 1, none⟩ (.int .i64 (tourL t f)) (.inl rfl)
      have bf : Below w2.heap.size w2 ((w5.setCell ⟨w2.heap.size, 0, none⟩ (.slice F f.length c)).setCell ⟨w2.heap.size, 1, none⟩ (.int .i64 (tourL t f))) := b5.trans (hk5.below (by omega) (by omega) (by omega) b5.size)
      have gf : GoodT t ((w5.setCell ⟨w2.heap.size, 0, none⟩ (.slice F f.length c)).setCell ⟨w2.heap.size, 1, none⟩ (.int .i64 (tourL t f))) F f := ⟨hG.1.keep3 hk5 (fun ad had => by have h9 := hfar ad had; (try simp only [World.size_alloc] at h9); exact ⟨by omega, by omega, by omega⟩), hG.2.1, hG.2.2⟩
      have kB : ((w5.setCell ⟨w2.heap.size, 0, none⟩ (.slice F f.length c)).setCell ⟨w2.heap.size, 1, none⟩ (.int .i64 (tourL t f))).cell? ⟨w2.heap.size, 0, none⟩ = some (.slice F f.length c) := (two_cell (two_set vB5)).1
      have vf := (hk5.block _ (lt_block v5) (by omega) (by omega) (by omega)).trans v5
      refine hK.out _ _ (HKp.out _ bf) (fun hHeld => ?_)
      clear hK K kb0 kb1 fb
      try simp only [Act.put, List.setIfInBounds_toArray, List.set_cons_zero, List.set_cons_succ]
      generalize ((w5.setCell ⟨w2.heap.size, 0, none⟩ (.slice F f.length c)).setCell ⟨w2.heap.size, 1, none⟩ (.int .i64 (tourL t f))) = wf at *
      refine take_d (i := 11) (d := some 6) (v := ?_) rfl rfl (by kernel_rfl) (by kernel_rfl) (by kernel_rfl) (fun _ _ _ h => unput (by decide) (by decide) h) (Or.inl ⟨by first | rfl | (simp [*, Region.wanted, yielded]), ?hy11x16⟩) (by assumption) ?rest11x16
      case hy11x16 => (intro w hSw; (try dsimp only at hSw); go_simp <;> with_reducible rfl)
      try simp only [Act.put, List.setIfInBounds_toArray, List.set_cons_zero, List.set_cons_succ]
      have kW := one_cell vf
      have fW := one_free vf 0
      have HGf := hid gf
      have HBf := hid bf
      have HVf := hid vf
      clear gf bf vf
      refine wpAnyH_done (by kernel_rfl) ?_ _
      simp only [onPanic, Exit.then]
      generalize hTL : tourL t f = tl at *
      clear hTL
      go_wp2_with fail
      refine leaves_cons (f := 61) (args := #[.pointer (some ⟨w.heap.size + 1, 0, none⟩)]) (by simp) (by simp [go_sem]) ?_
      refine (catch_idle (w.heap.size + 1) _).mono ?_
      rintro e u' w'' ⟨rfl, rfl, rfl⟩
      have v6 := one_set (v := Value.slice F f.length c) HVf.out
      have hal := (Below.refl (wf.setCell ⟨w.heap.size + 1, 0, none⟩ (.slice F f.length c)).heap.size (wf.setCell ⟨w.heap.size + 1, 0, none⟩ (.slice F f.length c))).alloc (Nat.le_refl _) (.cells #[.slice none 0 0, .int .i64 0] 79)
      have v7 := (hal.block _ (lt_block v6)).trans v6
      refine ⟨_, results_c1 Try.results26 _ _ ⟨w.heap.size + 1, 0, none⟩ (.slice F f.length c) rfl (load_var _ _ F f.length c (one_cell v7)), ?_, .inr ⟨HE.out, F, c, f, rfl, (ints_var HGf.out.1 HVf.out _).below hal, HGf.out.2.1, HGf.out.2.2⟩⟩
      have hsf := HBf.out.size
      exact HXB.out.trans ((((HB2.out.trans (HBf.out.mono HB2.out.size)).mono (by omega)).setCell (by simp) _).trans (hal.mono (by have h1 := HB2.out.size; simp; omega)))
  · have HE := hid hv
    obtain ⟨e0, he0⟩ : ∃ e0, vaV t = e0 := ⟨_, rfl⟩
    have HEq := hid he0
    rw [he0] at HV hv HE
    clear he0
    have hne : (e0 == 0) = false := by simp; exact hv
    go_enter_defers Try.func26, Try.ntmps26
    go_wp2_with fail
    generalize ((w.alloc (.cells #[.slice a t.length cap] 22)).alloc (.cells #[.slice none 0 0] 23)) = w1 at *
    refine HV.out.mono ?_
    rintro e w2 ⟨hb2, rfl⟩
    have hl1 := cell_lt k1
    have j1 := (hb2.cell hl1).trans k1
    have g1 := (hb2.frozen hl1).trans f1
    have HB2 := hid hb2
    clear hb2 k0 k1 f1 HV
    go_wp2_with fail
    have v2 := (HB2.out.block _ (lt_block HX1.out)).trans HX1.out
    exact ⟨_, results_c1 Try.results26 _ _ ⟨w.heap.size + 1, 0, none⟩ _ rfl (load_var _ _ none 0 0 (one_cell (one_set v2))), HXB.out.trans ((HB2.out.mono (by omega)).trans ((Below.refl w.heap.size w2).setCell (by simp) (.slice none 0 0))), .inl ⟨by rw [HEq.out]; exact HE.out, by rw [HEq.out]; rfl⟩⟩
end Go.Proofs.Ytbffdpcogfmomaa
