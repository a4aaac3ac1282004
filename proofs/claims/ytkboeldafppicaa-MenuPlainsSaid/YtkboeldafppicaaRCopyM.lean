/- The document's copy of a machine: chapter 3. -/
import Derived.Test.YtkboeldafppicaaRowsM
import Derived.Test.YtkboeldafppicaaTakeD
import Derived.Deep.Cut
import Derived.Deep.DeepCutAuto
import Derived.Deep.LoopGhost
import Derived.Deep.RegionHeld3
set_option linter.unusedVariables false
set_option linter.unusedSimpArgs false
namespace Go.Proofs.Ytkboeldafppicaa
open Go.RowKit

set_option maxRecDepth 100000 in
set_option maxHeartbeats 4000000 in
theorem rCopyM_any (L : Int) (nc ac : Nat) (Na Aa : Option Addr) (rows : List (List Int)) (accs : List Bool) (w : World) (h : MachAt w Na rows Aa accs) (hrl : rows.length ≤ 1000) (hr : ∀ r ∈ rows, r.length ≤ 1000) (hal : accs.length ≤ 1000) :
    Calls Try.prog 25 #[machV L Na rows.length nc Aa accs.length ac] w fun e w' => Below w.heap.size w w' ∧ ∃ Na' nc' Aa' ac', e = .returned (machV L Na' rows.length nc' Aa' accs.length ac') ∧ MachAt w' Na' rows Aa' accs := by
  obtain ⟨i0, hinf, hz0, hz1, hz2⟩ := info_parts int_info
  obtain ⟨j0, hjnf, hy0, hy1, hy2⟩ := info_parts row_info
  obtain ⟨j3, hjnf3, hx0, hx1, hx2⟩ := info_parts boolM_info
  have hB1 : Below w.heap.size w ((w.alloc (.cells #[.int .i64 L, .slice Na rows.length nc, .slice Aa accs.length ac] 25)).alloc (.cells #[.int .i64 0, .slice none 0 0, .slice none 0 0] 25)) := ((Below.refl _ _).alloc (Nat.le_refl _) _).alloc (by simp) _
  have HM := hid (h.below hB1)
  have HB1 := hid hB1
  have HRl := hid hr
  clear h hB1 hr
  unfold machV
  go_enter Try.func25, Try.ntmps25
  go_upto_region 1 with (fail)
  have b0 : ((w.alloc (.cells #[.int .i64 L, .slice Na rows.length nc, .slice Aa accs.length ac] 25)).alloc (.cells #[.int .i64 0, .slice none 0 0, .slice none 0 0] 25)).cell? ⟨w.heap.size, 0, none⟩ = some (.int .i64 L) := by go_simp
  have b1 : ((w.alloc (.cells #[.int .i64 L, .slice Na rows.length nc, .slice Aa accs.length ac] 25)).alloc (.cells #[.int .i64 0, .slice none 0 0, .slice none 0 0] 25)).cell? ⟨w.heap.size, 1, none⟩ = some (.slice Na rows.length nc) := by go_simp
  have b2 : ((w.alloc (.cells #[.int .i64 L, .slice Na rows.length nc, .slice Aa accs.length ac] 25)).alloc (.cells #[.int .i64 0, .slice none 0 0, .slice none 0 0] 25)).cell? ⟨w.heap.size, 2, none⟩ = some (.slice Aa accs.length ac) := by go_simp
  have r0 : ((w.alloc (.cells #[.int .i64 L, .slice Na rows.length nc, .slice Aa accs.length ac] 25)).alloc (.cells #[.int .i64 0, .slice none 0 0, .slice none 0 0] 25)).cell? ⟨w.heap.size + 1, 0, none⟩ = some (.int .i64 0) := by go_simp
  have r1 : ((w.alloc (.cells #[.int .i64 L, .slice Na rows.length nc, .slice Aa accs.length ac] 25)).alloc (.cells #[.int .i64 0, .slice none 0 0, .slice none 0 0] 25)).cell? ⟨w.heap.size + 1, 1, none⟩ = some (.slice none 0 0) := by go_simp
  have r2 : ((w.alloc (.cells #[.int .i64 L, .slice Na rows.length nc, .slice Aa accs.length ac] 25)).alloc (.cells #[.int .i64 0, .slice none 0 0, .slice none 0 0] 25)).cell? ⟨w.heap.size + 1, 2, none⟩ = some (.slice none 0 0) := by go_simp
  have rf : ∀ o, ((w.alloc (.cells #[.int .i64 L, .slice Na rows.length nc, .slice Aa accs.length ac] 25)).alloc (.cells #[.int .i64 0, .slice none 0 0, .slice none 0 0] 25)).frozen? ⟨w.heap.size + 1, o, none⟩ = false := fun o => by go_simp
  have hs0 : ((w.alloc (.cells #[.int .i64 L, .slice Na rows.length nc, .slice Aa accs.length ac] 25)).alloc (.cells #[.int .i64 0, .slice none 0 0, .slice none 0 0] 25)).heap.size = w.heap.size + 2 := by simp
  generalize (w.alloc (.cells #[.int .i64 L, .slice Na rows.length nc, .slice Aa accs.length ac] 25)).alloc (.cells #[.int .i64 0, .slice none 0 0, .slice none 0 0] 25) = wb at *
  have HRes := hid (And.intro (And.intro r0 (And.intro r1 r2)) rf)
  have HBox := hid (And.intro b0 (And.intro b1 b2))
  have HS0 := hid hs0
  have hlt : w.heap.size < wb.heap.size := by omega
  have HSrc := hid (src_bools HM.out.aat)
  have hr0 : Below wb.heap.size wb wb := Below.refl _ _
  have HKp := hid (fun w' (hb : Below wb.heap.size wb w') => (show w'.cell? ⟨w.heap.size, 0, none⟩ = some (.int .i64 L) ∧ w'.cell? ⟨w.heap.size, 2, none⟩ = some (.slice Aa accs.length ac) from ⟨(hb.cell (cell_lt b0)).trans b0, (hb.cell (cell_lt b2)).trans b2⟩))
  clear b0 b1 b2 r0 r1 r2 rf hs0
  go_cut [3] (fun s3 wx => ∃ (g3 : Nat) (vA : Value), s3 = .pointer (some ⟨g3, 0, none⟩) ∧ Hid (CopP wb wx g3 L [] (.slice none 0 0) accs vA))
  case first =>
    refine wp_region_held_drew (S := (fun w' => w'.cell? ⟨w.heap.size, 0, none⟩ = some (.int .i64 L) ∧ w'.cell? ⟨w.heap.size, 2, none⟩ = some (.slice Aa accs.length ac))) (by kernel_rfl) (HKp.out _ hr0.drew) (fun hHeld => ?_)
    refine take_d (i := 0) (d := some 5) (v := ?_) rfl rfl (by kernel_rfl) (by kernel_rfl) (by kernel_rfl) (fun _ _ _ h => h) (Or.inl ⟨by first | rfl | (simp [*, Region.wanted, yielded]), ?hyp1⟩) (by assumption) ?restp1
    case hyp1 => (intro w hSw; (try dsimp only at hSw); go_simp <;> with_reducible rfl)
    try simp only [Act.put, List.setIfInBounds_toArray, List.set_cons_zero, List.set_cons_succ]
    refine take_d (i := 1) (d := some 6) (v := ?_) rfl rfl (by kernel_rfl) (by kernel_rfl) (by kernel_rfl) (fun _ _ _ h => h) (Or.inl ⟨by first | rfl | (simp [*, Region.wanted, yielded]), ?hyp2⟩) (by assumption) ?restp2
    case hyp2 => (intro w hSw; (try dsimp only at hSw); go_simp <;> with_reducible rfl)
    try simp only [Act.put, List.setIfInBounds_toArray, List.set_cons_zero, List.set_cons_succ]
    refine take_d (i := 3) (d := some 8) (v := ?_) rfl rfl (by kernel_rfl) (by kernel_rfl) (by kernel_rfl) (fun _ _ _ h => h) (Or.inl ⟨by first | rfl | (simp [*, Region.wanted, yielded]), ?hyp3⟩) (by assumption) ?restp3
    case hyp3 => (intro w hSw; (try dsimp only at hSw); go_simp <;> with_reducible rfl)
    try simp only [Act.put, List.setIfInBounds_toArray, List.set_cons_zero, List.set_cons_succ]
    refine take_d (i := 4) (d := some 9) (v := ?_) rfl rfl (by kernel_rfl) (by kernel_rfl) (by kernel_rfl) (fun _ _ _ h => h) (Or.inl ⟨by first | rfl | (simp [*, Region.wanted, yielded]), ?hyp4⟩) (by assumption) ?restp4
    case hyp4 => (intro w hSw; (try dsimp only at hSw); go_simp <;> with_reducible rfl)
    try simp only [Act.put, List.setIfInBounds_toArray, List.set_cons_zero, List.set_cons_succ]
    refine wpAnyH_ready (rs := [2, 7]) (by kernel_rfl) (by simp) ?_
    refine AllReadyH.cons (o := _) rfl (fun K hK => ?_) (AllReadyH.cons (o := _) rfl (fun K hK => ?_) AllReadyH.nil)
    · go_simp
      go_wp2_with fail
      refine hK.out _ _ (HKp.out _ (by repeat (first | exact hr0 | apply Below.drew | (refine Below.alloc ?_ (by first | exact Below.size (by assumption) | omega | (simp; done) | (simp; omega)) _) | (refine Below.setCell ?_ (by first | omega | (simp; done) | (simp; omega)) _)))) (fun hHeld => ?_)
      clear hK K
      try simp only [Act.put, List.setIfInBounds_toArray, List.set_cons_zero, List.set_cons_succ]
      refine wpAnyH_ready (rs := [5, 7]) (by kernel_rfl) (by simp) ?_
      refine AllReadyH.cons (o := _) rfl (fun K hK => ?_) (AllReadyH.cons (o := _) rfl (fun K hK => ?_) AllReadyH.nil)
      · have hcur : Below wb.heap.size wb (wb.drew.alloc (.cells #[] 4)) := by repeat (first | exact hr0 | apply Below.drew | (refine Below.alloc ?_ (by first | exact Below.size (by assumption) | omega | (simp; done) | (simp; omega)) _) | (refine Below.setCell ?_ (by first | omega | (simp; done) | (simp; omega)) _))
        have hE : (wb.drew.alloc (.cells #[] 4)).ownsRow wb.heap.size 4 1 (.slice (some ⟨wb.heap.size, 0, none⟩) 0 0) 0 [] := by first | simpa using (World.ownsRow_lit (base := wb.heap.size) (e := 4) (size := 1) wb.drew #[] 0 (Nat.le_refl _) (by decide) (by simp)) | (have hx := (World.ownsRow_lit (base := wb.heap.size) (e := 4) (size := 1) wb.drew #[] 0 (Nat.le_refl _) (by decide) (by simp)); simp only [World.size_alloc] at hx; exact hx)
        have hSr := src_bools (HM.out.below hcur).aat
        refine step_append_src rfl _ _ 23 rfl wb.heap.size 4 j3 (.bool false) 1 1 Try.underlying23 hjnf3 hx0 hx1 hx2 rfl (by decide) (.slice (some ⟨wb.heap.size, 0, none⟩) 0 0) 0 [] (by rfl) hE Aa accs.length ac (accs.map Value.bool) (by rfl) (by simp) hSr (bools_one accs) (by unfold maxLen; omega) (by omega) (by first | (simp; done) | (simp; omega)) ?_
        intro v5 w5 hown5 hgr5
        have p5 : Below wb.heap.size wb w5 := hcur.grown hgr5 hcur.size (fun q hq => by simp [Value.ownBlock] at hq; omega)
        have HA5 := hid (show w5.ownsRow wb.heap.size 4 1 v5 accs.length (accs.map Value.bool) from by simpa using hown5)
        obtain ⟨A5, c5, hv5⟩ : ∃ A c, v5 = .slice A accs.length c := by
          rcases HA5.out.2 with ⟨hv, hn⟩ | ⟨g, c, cur, hv, _⟩
          · exact ⟨none, 0, by rw [hv, hn]⟩
          · exact ⟨_, _, hv⟩
        subst hv5
        clear hown5 hgr5 hE hSr hcur
        refine hK.out _ _ (HKp.out _ p5) (fun hHeld => ?_)
        clear hK K
        try simp only [Act.put, List.setIfInBounds_toArray, List.set_cons_zero, List.set_cons_succ]
        refine take_d (i := 6) (d := some 11) (v := ?_) rfl rfl (by kernel_rfl) (by kernel_rfl) (by kernel_rfl) (fun _ _ _ h => h) (Or.inl ⟨by first | rfl | (simp [*, Region.wanted, yielded]), ?hyp5⟩) (by assumption) ?restp5
        case hyp5 => (intro w hSw; (try dsimp only at hSw); go_simp <;> with_reducible rfl)
        try simp only [Act.put, List.setIfInBounds_toArray, List.set_cons_zero, List.set_cons_succ]
        refine wpAnyH_ready (rs := [7]) (by kernel_rfl) (by simp) ?_
        refine AllReadyH.cons (o := _) rfl (fun K hK => ?_) AllReadyH.nil
        go_simp
        go_wp2_with fail
        refine hK.out _ _ (HKp.out _ (by repeat (first | exact hr0 | exact p5 | apply Below.drew | (refine Below.alloc ?_ (by first | exact Below.size (by assumption) | omega | (simp; done) | (simp; omega)) _) | (refine Below.setCell ?_ (by first | omega | (simp; done) | (simp; omega)) _)))) (fun hHeld => ?_)
        clear hK K
        try simp only [Act.put, List.setIfInBounds_toArray, List.set_cons_zero, List.set_cons_succ]
        refine wpAnyH_ready (rs := [8]) (by kernel_rfl) (by simp) ?_
        refine AllReadyH.cons (o := _) rfl (fun K hK => ?_) AllReadyH.nil
        go_simp
        go_wp2_with fail
        refine hK.out _ _ (HKp.out _ (by repeat (first | exact hr0 | exact p5 | apply Below.drew | (refine Below.alloc ?_ (by first | exact Below.size (by assumption) | omega | (simp; done) | (simp; omega)) _) | (refine Below.setCell ?_ (by first | omega | (simp; done) | (simp; omega)) _)))) (fun hHeld => ?_)
        clear hK K
        try simp only [Act.put, List.setIfInBounds_toArray, List.set_cons_zero, List.set_cons_succ]
        refine wpAnyH_done (by kernel_rfl) ?_ _
        go_simp
        go_wp2_with fail
        go_meet
        case rel => exact ⟨_, _, rfl, CopP.made1 p5 HA5.out⟩
      · go_simp
        go_wp2_with fail
        refine hK.out _ _ (HKp.out _ (by repeat (first | exact hr0 | apply Below.drew | (refine Below.alloc ?_ (by first | exact Below.size (by assumption) | omega | (simp; done) | (simp; omega)) _) | (refine Below.setCell ?_ (by first | omega | (simp; done) | (simp; omega)) _)))) (fun hHeld => ?_)
        clear hK K
        try simp only [Act.put, List.setIfInBounds_toArray, List.set_cons_zero, List.set_cons_succ]
        refine wpAnyH_ready (rs := [5]) (by kernel_rfl) (by simp) ?_
        refine AllReadyH.cons (o := _) rfl (fun K hK => ?_) AllReadyH.nil
        have hcur : Below wb.heap.size wb ((wb.drew.alloc (.cells #[] 4)).alloc (.cells #[.int .i64 0, .slice none 0 0, .slice none 0 0] 25)) := by repeat (first | exact hr0 | apply Below.drew | (refine Below.alloc ?_ (by first | exact Below.size (by assumption) | omega | (simp; done) | (simp; omega)) _) | (refine Below.setCell ?_ (by first | omega | (simp; done) | (simp; omega)) _))
        have hE : ((wb.drew.alloc (.cells #[] 4)).alloc (.cells #[.int .i64 0, .slice none 0 0, .slice none 0 0] 25)).ownsRow wb.heap.size 4 1 (.slice (some ⟨wb.heap.size, 0, none⟩) 0 0) 0 [] := by first | simpa using (own_below (World.ownsRow_lit (base := wb.heap.size) (e := 4) (size := 1) wb.drew #[] 0 (Nat.le_refl _) (by decide) (by simp)) ((Below.refl _ _).alloc (Nat.le_refl _) (.cells #[.int .i64 0, .slice none 0 0, .slice none 0 0] 25))) | (have hx := (own_below (World.ownsRow_lit (base := wb.heap.size) (e := 4) (size := 1) wb.drew #[] 0 (Nat.le_refl _) (by decide) (by simp)) ((Below.refl _ _).alloc (Nat.le_refl _) (.cells #[.int .i64 0, .slice none 0 0, .slice none 0 0] 25))); simp only [World.size_alloc] at hx; exact hx)
        have hSr := src_bools (HM.out.below hcur).aat
        refine step_append_src rfl _ _ 23 rfl wb.heap.size 4 j3 (.bool false) 1 1 Try.underlying23 hjnf3 hx0 hx1 hx2 rfl (by decide) (.slice (some ⟨wb.heap.size, 0, none⟩) 0 0) 0 [] (by rfl) hE Aa accs.length ac (accs.map Value.bool) (by rfl) (by simp) hSr (bools_one accs) (by unfold maxLen; omega) (by omega) (by first | (simp; done) | (simp; omega)) ?_
        intro v5 w5 hown5 hgr5
        have p5 : Below wb.heap.size wb w5 := hcur.grown hgr5 hcur.size (fun q hq => by simp [Value.ownBlock] at hq; omega)
        have HA5 := hid (show w5.ownsRow wb.heap.size 4 1 v5 accs.length (accs.map Value.bool) from by simpa using hown5)
        obtain ⟨A5, c5, hv5⟩ : ∃ A c, v5 = .slice A accs.length c := by
          rcases HA5.out.2 with ⟨hv, hn⟩ | ⟨g, c, cur, hv, _⟩
          · exact ⟨none, 0, by rw [hv, hn]⟩
          · exact ⟨_, _, hv⟩
        subst hv5
        have hk5 : w5.heap[(wb.heap.size + 1)]? = some (.cells #[.int .i64 0, .slice none 0 0, .slice none 0 0] 25 (0, 0)) := by
          rw [hgr5.block _ (by first | (simp; done) | (simp; omega)) (by simp [Value.ownBlock])]
          have hx9 := heap_alloc_new (wb.alloc (.cells #[] 4)) (.cells #[.int .i64 0, .slice none 0 0, .slice none 0 0] 25); rw [World.size_alloc] at hx9; exact hx9
        have x0 : w5.cell? ⟨(wb.heap.size + 1), 0, none⟩ = some (.int .i64 0) := by unfold World.cell?; simp [hk5]
        have x1 : w5.cell? ⟨(wb.heap.size + 1), 1, none⟩ = some (.slice none 0 0) := by unfold World.cell?; simp [hk5]
        have x2 : w5.cell? ⟨(wb.heap.size + 1), 2, none⟩ = some (.slice none 0 0) := by unfold World.cell?; simp [hk5]
        have ff : ∀ o, w5.frozen? ⟨(wb.heap.size + 1), o, none⟩ = false := fun o => by unfold World.frozen?; simp [hk5]
        have f0 := ff 0
        have f1 := ff 1
        have f2 := ff 2
        clear hown5 hgr5 hE hSr hcur
        refine hK.out _ _ (HKp.out _ p5) (fun hHeld => ?_)
        clear hK K
        try simp only [Act.put, List.setIfInBounds_toArray, List.set_cons_zero, List.set_cons_succ]
        refine take_d (i := 6) (d := some 11) (v := ?_) rfl rfl (by kernel_rfl) (by kernel_rfl) (by kernel_rfl) (fun _ _ _ h => h) (Or.inl ⟨by first | rfl | (simp [*, Region.wanted, yielded]), ?hyp6⟩) (by assumption) ?restp6
        case hyp6 => (intro w hSw; (try dsimp only at hSw); go_simp <;> with_reducible rfl)
        try simp only [Act.put, List.setIfInBounds_toArray, List.set_cons_zero, List.set_cons_succ]
        refine wpAnyH_ready (rs := [8]) (by kernel_rfl) (by simp) ?_
        refine AllReadyH.cons (o := _) rfl (fun K hK => ?_) AllReadyH.nil
        go_simp
        go_wp2_with fail
        refine hK.out _ _ (HKp.out _ (by repeat (first | exact hr0 | exact p5 | apply Below.drew | (refine Below.alloc ?_ (by first | exact Below.size (by assumption) | omega | (simp; done) | (simp; omega)) _) | (refine Below.setCell ?_ (by first | omega | (simp; done) | (simp; omega)) _)))) (fun hHeld => ?_)
        clear hK K
        try simp only [Act.put, List.setIfInBounds_toArray, List.set_cons_zero, List.set_cons_succ]
        refine wpAnyH_done (by kernel_rfl) ?_ _
        go_simp
        go_wp2_with fail
        go_meet
        case rel => exact ⟨_, _, rfl, CopP.made2 p5 HA5.out hk5 (by omega)⟩
    · go_simp
      go_wp2_with fail
      refine hK.out _ _ (HKp.out _ (by repeat (first | exact hr0 | apply Below.drew | (refine Below.alloc ?_ (by first | exact Below.size (by assumption) | omega | (simp; done) | (simp; omega)) _) | (refine Below.setCell ?_ (by first | omega | (simp; done) | (simp; omega)) _)))) (fun hHeld => ?_)
      clear hK K
      try simp only [Act.put, List.setIfInBounds_toArray, List.set_cons_zero, List.set_cons_succ]
      refine wpAnyH_ready (rs := [2]) (by kernel_rfl) (by simp) ?_
      refine AllReadyH.cons (o := _) rfl (fun K hK => ?_) AllReadyH.nil
      go_simp
      go_wp2_with fail
      refine hK.out _ _ (HKp.out _ (by repeat (first | exact hr0 | apply Below.drew | (refine Below.alloc ?_ (by first | exact Below.size (by assumption) | omega | (simp; done) | (simp; omega)) _) | (refine Below.setCell ?_ (by first | omega | (simp; done) | (simp; omega)) _)))) (fun hHeld => ?_)
      clear hK K
      try simp only [Act.put, List.setIfInBounds_toArray, List.set_cons_zero, List.set_cons_succ]
      refine wpAnyH_ready (rs := [5]) (by kernel_rfl) (by simp) ?_
      refine AllReadyH.cons (o := _) rfl (fun K hK => ?_) AllReadyH.nil
      have hcur : Below wb.heap.size wb ((wb.drew.alloc (.cells #[.int .i64 0, .slice none 0 0, .slice none 0 0] 25)).alloc (.cells #[] 4)) := by repeat (first | exact hr0 | apply Below.drew | (refine Below.alloc ?_ (by first | exact Below.size (by assumption) | omega | (simp; done) | (simp; omega)) _) | (refine Below.setCell ?_ (by first | omega | (simp; done) | (simp; omega)) _))
      have hE : ((wb.drew.alloc (.cells #[.int .i64 0, .slice none 0 0, .slice none 0 0] 25)).alloc (.cells #[] 4)).ownsRow wb.heap.size 4 1 (.slice (some ⟨wb.heap.size + 1, 0, none⟩) 0 0) 0 [] := by first | simpa using (World.ownsRow_lit (base := wb.heap.size) (e := 4) (size := 1) (wb.drew.alloc (.cells #[.int .i64 0, .slice none 0 0, .slice none 0 0] 25)) #[] 0 (by simp) (by decide) (by simp)) | (have hx := (World.ownsRow_lit (base := wb.heap.size) (e := 4) (size := 1) (wb.drew.alloc (.cells #[.int .i64 0, .slice none 0 0, .slice none 0 0] 25)) #[] 0 (by simp) (by decide) (by simp)); simp only [World.size_alloc] at hx; exact hx)
      have hSr := src_bools (HM.out.below hcur).aat
      refine step_append_src rfl _ _ 23 rfl wb.heap.size 4 j3 (.bool false) 1 1 Try.underlying23 hjnf3 hx0 hx1 hx2 rfl (by decide) (.slice (some ⟨wb.heap.size + 1, 0, none⟩) 0 0) 0 [] (by rfl) hE Aa accs.length ac (accs.map Value.bool) (by rfl) (by simp) hSr (bools_one accs) (by unfold maxLen; omega) (by omega) (by first | (simp; done) | (simp; omega)) ?_
      intro v5 w5 hown5 hgr5
      have p5 : Below wb.heap.size wb w5 := hcur.grown hgr5 hcur.size (fun q hq => by simp [Value.ownBlock] at hq; omega)
      have HA5 := hid (show w5.ownsRow wb.heap.size 4 1 v5 accs.length (accs.map Value.bool) from by simpa using hown5)
      obtain ⟨A5, c5, hv5⟩ : ∃ A c, v5 = .slice A accs.length c := by
        rcases HA5.out.2 with ⟨hv, hn⟩ | ⟨g, c, cur, hv, _⟩
        · exact ⟨none, 0, by rw [hv, hn]⟩
        · exact ⟨_, _, hv⟩
      subst hv5
      have hk5 : w5.heap[wb.heap.size]? = some (.cells #[.int .i64 0, .slice none 0 0, .slice none 0 0] 25 (0, 0)) := by
        rw [hgr5.block _ (by first | (simp; done) | (simp; omega)) (by simp [Value.ownBlock])]
        exact (Below.heap_alloc (wb.alloc (.cells #[.int .i64 0, .slice none 0 0, .slice none 0 0] 25)) (.cells #[] 4) _ (by simp)).trans (heap_alloc_new wb (.cells #[.int .i64 0, .slice none 0 0, .slice none 0 0] 25))
      have x0 : w5.cell? ⟨wb.heap.size, 0, none⟩ = some (.int .i64 0) := by unfold World.cell?; simp [hk5]
      have x1 : w5.cell? ⟨wb.heap.size, 1, none⟩ = some (.slice none 0 0) := by unfold World.cell?; simp [hk5]
      have x2 : w5.cell? ⟨wb.heap.size, 2, none⟩ = some (.slice none 0 0) := by unfold World.cell?; simp [hk5]
      have ff : ∀ o, w5.frozen? ⟨wb.heap.size, o, none⟩ = false := fun o => by unfold World.frozen?; simp [hk5]
      have f0 := ff 0
      have f1 := ff 1
      have f2 := ff 2
      clear hown5 hgr5 hE hSr hcur
      refine hK.out _ _ (HKp.out _ p5) (fun hHeld => ?_)
      clear hK K
      try simp only [Act.put, List.setIfInBounds_toArray, List.set_cons_zero, List.set_cons_succ]
      refine take_d (i := 6) (d := some 11) (v := ?_) rfl rfl (by kernel_rfl) (by kernel_rfl) (by kernel_rfl) (fun _ _ _ h => h) (Or.inl ⟨by first | rfl | (simp [*, Region.wanted, yielded]), ?hyp7⟩) (by assumption) ?restp7
      case hyp7 => (intro w hSw; (try dsimp only at hSw); go_simp <;> with_reducible rfl)
      try simp only [Act.put, List.setIfInBounds_toArray, List.set_cons_zero, List.set_cons_succ]
      refine wpAnyH_ready (rs := [8]) (by kernel_rfl) (by simp) ?_
      refine AllReadyH.cons (o := _) rfl (fun K hK => ?_) AllReadyH.nil
      go_simp
      go_wp2_with fail
      refine hK.out _ _ (HKp.out _ (by repeat (first | exact hr0 | exact p5 | apply Below.drew | (refine Below.alloc ?_ (by first | exact Below.size (by assumption) | omega | (simp; done) | (simp; omega)) _) | (refine Below.setCell ?_ (by first | omega | (simp; done) | (simp; omega)) _)))) (fun hHeld => ?_)
      clear hK K
      try simp only [Act.put, List.setIfInBounds_toArray, List.set_cons_zero, List.set_cons_succ]
      refine wpAnyH_done (by kernel_rfl) ?_ _
      go_simp
      go_wp2_with fail
      go_meet
      case rel => exact ⟨_, _, rfl, CopP.made2 p5 HA5.out hk5 (by omega)⟩
  case rest =>
    obtain ⟨g3, vA, rfl, HC⟩ := hcut
    clear HKp hr0 HSrc
    go_wp2
    go_loopw [4] (fun i wr => ∃ (k : Nat) (vN : Value), k ≤ rows.length ∧ i = .int .i64 (k : Int) ∧ Hid (CopP wb wr g3 L (rows.take k) vN accs vA)) (fun i _ => rows.length - (intOf i).toNat)
    case atStart => exact ⟨0, _, Nat.zero_le _, rfl, HC.out⟩
    case round =>
      clear HC
      obtain ⟨k, vN, hk, rfl, HC⟩ := hrel
      have hbw := HC.out.bel
      have b1 := (hbw.cell (cell_lt HBox.out.2.1)).trans HBox.out.2.1
      have hbz := hbw.size
      have hlo := HC.out.lo
      by_cases hlk : k < rows.length
      · rcases HM.out.nat_ with e | ⟨b, o, hA, hc⟩
        · rw [e] at hlk; simp at hlk
        obtain ⟨A, c, g1, gI⟩ := hc k hlk
        have hrk : (rows[k]?.getD []).length ≤ 1000 := HRl.out _ (by rw [List.getElem?_eq_getElem hlk]; exact List.getElem_mem hlk)
        have HTk := hid (show rows.take (k + 1) = rows.take k ++ [rows[k]?.getD []] from by rw [List.take_add_one, List.getElem?_eq_getElem hlk]; rfl)
        have htl : (rows.take k).length ≤ 1000 := by rw [List.length_take]; omega
        have HgI := hid (gI.below (w' := wr) ⟨hbw.os, hbw.tape, hbw.output, hbw.size, hbw.block⟩)
        subst hA
        generalize rows[k]?.getD [] = row at *
        generalize rows.take k = tk at *
        have HKb := hid (fun w' (hb : Below wb.heap.size wb w') => (show w'.cell? ⟨w.heap.size, 1, none⟩ = some (.slice (some ⟨b, o, none⟩) rows.length nc) ∧ w'.cell? ⟨b, o + k, none⟩ = some (.slice A row.length c) from ⟨(hb.cell (cell_lt HBox.out.2.1)).trans HBox.out.2.1, (hb.cell (cell_lt g1)).trans g1⟩))
        have hk0 : (0 : Int) ≤ (k : Int) := by omega
        have hk1 : (k : Int) < (rows.length : Int) := by omega
        have c1v := HC.out.c1
        have l3 := cell_lt c1v
        clear hc gI g1
        go_upto_region 5 with (fail)
        clear b1
        refine wp_region_held_drew (S := (fun w' => w'.cell? ⟨w.heap.size, 1, none⟩ = some (.slice (some ⟨b, o, none⟩) rows.length nc) ∧ w'.cell? ⟨b, o + k, none⟩ = some (.slice A row.length c))) (by kernel_rfl) (HKb.out _ hbw.drew) (fun hHeld => ?_)
        refine take_d (i := 0) (d := some 19) (v := ?_) rfl rfl (by kernel_rfl) (by kernel_rfl) (by kernel_rfl) (fun _ _ _ h => h) (Or.inl ⟨by first | rfl | (simp [*, Region.wanted, yielded]), ?hyq1⟩) (by assumption) ?restq1
        case hyq1 => (intro w hSw; (try dsimp only at hSw); go_simp <;> with_reducible rfl)
        try simp only [Act.put, List.setIfInBounds_toArray, List.set_cons_zero, List.set_cons_succ]
        refine take_d (i := 3) (d := some 22) (v := ?_) rfl rfl (by kernel_rfl) (by kernel_rfl) (by kernel_rfl) (fun _ _ _ h => h) (Or.inl ⟨by first | rfl | (simp [*, Region.wanted, yielded]), ?hyq2⟩) (by assumption) ?restq2
        case hyq2 => (intro w hSw; (try dsimp only at hSw); go_simp <;> with_reducible rfl)
        try simp only [Act.put, List.setIfInBounds_toArray, List.set_cons_zero, List.set_cons_succ]
        refine take_d (i := 4) (d := some 23) (v := ?_) rfl rfl (by kernel_rfl) (by kernel_rfl) (by kernel_rfl) (fun _ _ _ h => h) (Or.inl ⟨by first | rfl | (simp [*, Region.wanted, yielded]), ?hyq3⟩) (by assumption) ?restq3
        case hyq3 => (intro w hSw; (try dsimp only at hSw); go_simp <;> with_reducible rfl)
        try simp only [Act.put, List.setIfInBounds_toArray, List.set_cons_zero, List.set_cons_succ]
        refine take_d (i := 5) (d := some 24) (v := ?_) rfl rfl (by kernel_rfl) (by kernel_rfl) (by kernel_rfl) (fun _ _ _ h => h) (Or.inl ⟨by first | rfl | (simp [*, Region.wanted, yielded]), ?hyq4⟩) (by assumption) ?restq4
        case hyq4 => (intro w hSw; (try dsimp only at hSw); go_simp <;> with_reducible rfl)
        try simp only [Act.put, List.setIfInBounds_toArray, List.set_cons_zero, List.set_cons_succ]
        refine take_d (i := 6) (d := some 25) (v := ?_) rfl rfl (by kernel_rfl) (by kernel_rfl) (by kernel_rfl) (fun _ _ _ h => h) (Or.inl ⟨by first | rfl | (simp [*, Region.wanted, yielded]), ?hyq5⟩) (by assumption) ?restq5
        case hyq5 => (intro w hSw; (try dsimp only at hSw); go_simp <;> with_reducible rfl)
        try simp only [Act.put, List.setIfInBounds_toArray, List.set_cons_zero, List.set_cons_succ]
        refine take_d (i := 7) (d := some 26) (v := ?_) rfl rfl (by kernel_rfl) (by kernel_rfl) (by kernel_rfl) (fun _ _ _ h => h) (Or.inl ⟨by first | rfl | (simp [*, Region.wanted, yielded]), ?hyq6⟩) (by assumption) ?restq6
        case hyq6 => (intro w hSw; (try dsimp only at hSw); go_simp <;> with_reducible rfl)
        try simp only [Act.put, List.setIfInBounds_toArray, List.set_cons_zero, List.set_cons_succ]
        refine wpAnyH_ready (rs := [1, 2]) (by kernel_rfl) (by simp) ?_
        refine AllReadyH.cons (o := _) rfl (fun K hK => ?_) (AllReadyH.cons (o := _) rfl (fun K hK => ?_) AllReadyH.nil)
        · go_simp
          go_wp2_with fail
          refine hK.out _ _ (HKb.out _ (by repeat (first | exact hbw | apply Below.drew | (refine Below.alloc ?_ (by first | exact Below.size (by assumption) | omega | (simp; done) | (simp; omega)) _) | (refine Below.setCell ?_ (by first | exact hlo | omega | (simp; done) | (simp; omega)) _)))) (fun hHeld => ?_)
          clear hK K
          try simp only [Act.put, List.setIfInBounds_toArray, List.set_cons_zero, List.set_cons_succ]
          refine wpAnyH_ready (rs := [2]) (by kernel_rfl) (by simp) ?_
          refine AllReadyH.cons (o := _) rfl (fun K hK => ?_) AllReadyH.nil
          go_simp
          go_wp2_with fail
          refine hK.out _ _ (HKb.out _ (by repeat (first | exact hbw | apply Below.drew | (refine Below.alloc ?_ (by first | exact Below.size (by assumption) | omega | (simp; done) | (simp; omega)) _) | (refine Below.setCell ?_ (by first | exact hlo | omega | (simp; done) | (simp; omega)) _)))) (fun hHeld => ?_)
          clear hK K
          try simp only [Act.put, List.setIfInBounds_toArray, List.set_cons_zero, List.set_cons_succ]
          refine wpAnyH_ready (rs := [8]) (by kernel_rfl) (by simp) ?_
          refine AllReadyH.cons (o := _) rfl (fun K hK => ?_) AllReadyH.nil
          have hcur : Below wr.heap.size wr (wr.drew.alloc (.cells #[] 3)) := ((Below.refl _ _).drew).alloc (Nat.le_refl _) _
          have hE : (wr.drew.alloc (.cells #[] 3)).ownsRow wb.heap.size 3 1 (.slice (some ⟨wr.heap.size, 0, none⟩) 0 0) 0 [] := by simpa using (World.ownsRow_lit (base := wb.heap.size) (e := 3) (size := 1) wr.drew #[] 0 hbz (by decide) (by simp))
          have hSr := src_intsM (HgI.out.below hcur)
          refine step_append_src rfl _ _ 26 rfl wb.heap.size 3 i0 (.int .i64 0) 1 8 Try.underlying26 hinf hz0 hz1 hz2 rfl (by decide) (.slice (some ⟨wr.heap.size, 0, none⟩) 0 0) 0 [] (by rfl) hE A row.length c (row.map (Value.int .i64)) (by rfl) (by simp) hSr (ints_oneM row) (by unfold maxLen; omega) (by omega) (by first | (simp; done) | (simp; omega)) ?_
          intro v8 w8 hown8 hgr8
          have p8 : Below wr.heap.size wr w8 := hcur.grown hgr8 hcur.size (fun q hq => by simp [Value.ownBlock] at hq; omega)
          have p8b : Below wb.heap.size wb w8 := hbw.trans (p8.mono hbz)
          have hO8 : Own w8 wb.heap.size v8 row := by unfold Own; simpa using hown8
          obtain ⟨A8, c8, hv8⟩ : ∃ A c, v8 = .slice A row.length c := by
            rcases hO8.2 with ⟨hv, hn⟩ | ⟨g, c, cur, hv, _⟩
            · exact ⟨none, 0, by rw [hv, hn]⟩
            · exact ⟨_, _, hv⟩
          subst hv8
          have HO8 := hid hO8
          have HC8 := hid (HC.out.below p8)
          have x8 := HC8.out.c1
          have l8 := cell_lt x8
          have hz8 : wb.heap.size ≤ w8.heap.size := p8b.size
          clear hown8 hgr8 hE hSr hcur hO8
          refine hK.out _ _ (HKb.out _ p8b) (fun hHeld => ?_)
          clear hK K
          try simp only [Act.put, List.setIfInBounds_toArray, List.set_cons_zero, List.set_cons_succ]
          refine wpAnyH_ready (rs := [9]) (by kernel_rfl) (by simp) ?_
          refine AllReadyH.cons (o := _) rfl (fun K hK => ?_) AllReadyH.nil
          go_simp
          go_wp2_with fail
          refine hK.out _ _ (HKb.out _ (by repeat (first | exact hbw | exact p8b | apply Below.drew | (refine Below.alloc ?_ (by first | exact Below.size (by assumption) | omega | (simp; done) | (simp; omega)) _) | (refine Below.setCell ?_ (by first | exact hlo | omega | (simp; done) | (simp; omega)) _)))) (fun hHeld => ?_)
          clear hK K
          try simp only [Act.put, List.setIfInBounds_toArray, List.set_cons_zero, List.set_cons_succ]
          refine wpAnyH_ready (rs := [10]) (by kernel_rfl) (by simp) ?_
          refine AllReadyH.cons (o := _) rfl (fun K hK => ?_) AllReadyH.nil
          have hal9 : Below w8.heap.size w8 (w8.alloc (.cells #[.slice A8 row.length c8] 26)) := (Below.refl _ _).alloc (Nat.le_refl _) _
          have HC9 := hid (HC8.out.below hal9)
          obtain ⟨vals, hN9, hR9⟩ := HC9.out.N
          have HN9 := hid hN9
          have HR9 := hid hR9
          refine step_append_lies _ rfl _ _ 22 rfl wb.heap.size 26 j0 (.slice none 0 0) 1 24 Try.underlying22 hjnf hy0 hy1 hy2 rfl (by decide) vN tk.length vals (by rfl) (by exact hN9) ⟨w8.heap.size, 0, none⟩ 1 1 [.slice A8 row.length c8] (by rfl) rfl (World.news_of_block (cs := #[.slice A8 row.length c8]) (t := 26) (fr := (0, 0)) (heap_alloc_new w8 _)) (by simp [Value.oneCell']) (by decide) (by unfold maxLen; omega) (by omega) (by simp; omega) _ rfl ?_
          intro gU cU w9 hown9 hgr9 hat9 hlt9
          have HC10 := hid (CopP.push HC9.out HN9.out HR9.out (HO8.out.below hal9) hown9 hgr9)
          have hl9 : vN.ownBlock ≠ some g3 := by
            obtain ⟨cs, fr, hk⟩ := HC9.out.k
            exact own_ne HN9.out hk (by decide)
          have x9 := (grown_cell hgr9 (cell_lt HC9.out.c1) hl9).trans HC9.out.c1
          have f9 := (grown_frozen hgr9 (p := ⟨g3, 1, none⟩) (cell_lt HC9.out.c1) hl9).trans HC9.out.z1
          have p9 : Below wb.heap.size wb w9 := HC9.out.bel.grown hgr9 HC9.out.bel.size (fun q hq => by
            have := (World.ownsRow.lt HN9.out q hq).1; omega)
          clear hown9 hgr9 hat9 hlt9 hN9 hR9
          refine hK.out _ _ (HKb.out _ p9) (fun hHeld => ?_)
          clear hK K
          try simp only [Act.put, List.setIfInBounds_toArray, List.set_cons_zero, List.set_cons_succ]
          refine take_d (i := 11) (d := some 30) (v := ?_) rfl rfl (by kernel_rfl) (by kernel_rfl) (by kernel_rfl) (fun _ _ _ h => h) (Or.inl ⟨by first | rfl | (simp [*, Region.wanted, yielded]), ?hyq7⟩) (by assumption) ?restq7
          case hyq7 => (intro w hSw; (try dsimp only at hSw); go_simp <;> with_reducible rfl)
          try simp only [Act.put, List.setIfInBounds_toArray, List.set_cons_zero, List.set_cons_succ]
          refine wpAnyH_ready (rs := [12]) (by kernel_rfl) (by simp) ?_
          refine AllReadyH.cons (o := _) rfl (fun K hK => ?_) AllReadyH.nil
          go_simp
          go_wp2_with fail
          refine hK.out _ _ (HKb.out _ (by repeat (first | exact hbw | exact p8b | exact p9 | apply Below.drew | (refine Below.alloc ?_ (by first | exact Below.size (by assumption) | omega | (simp; done) | (simp; omega)) _) | (refine Below.setCell ?_ (by first | exact hlo | omega | (simp; done) | (simp; omega)) _)))) (fun hHeld => ?_)
          clear hK K
          try simp only [Act.put, List.setIfInBounds_toArray, List.set_cons_zero, List.set_cons_succ]
          refine wpAnyH_done (by kernel_rfl) ?_ _
          go_simp
          go_wp2
          go_roundw
          case rel => exact ⟨k + 1, _, by omega, by go_num, by rw [HTk.out]; exact HC10⟩
          case measure => simp [intOf]; omega
        · go_simp
          go_wp2_with fail
          refine hK.out _ _ (HKb.out _ (by repeat (first | exact hbw | apply Below.drew | (refine Below.alloc ?_ (by first | exact Below.size (by assumption) | omega | (simp; done) | (simp; omega)) _) | (refine Below.setCell ?_ (by first | exact hlo | omega | (simp; done) | (simp; omega)) _)))) (fun hHeld => ?_)
          clear hK K
          try simp only [Act.put, List.setIfInBounds_toArray, List.set_cons_zero, List.set_cons_succ]
          refine wpAnyH_ready (rs := [1, 8]) (by kernel_rfl) (by simp) ?_
          refine AllReadyH.cons (o := _) rfl (fun K hK => ?_) (AllReadyH.cons (o := _) rfl (fun K hK => ?_) AllReadyH.nil)
          · go_simp
            go_wp2_with fail
            refine hK.out _ _ (HKb.out _ (by repeat (first | exact hbw | apply Below.drew | (refine Below.alloc ?_ (by first | exact Below.size (by assumption) | omega | (simp; done) | (simp; omega)) _) | (refine Below.setCell ?_ (by first | exact hlo | omega | (simp; done) | (simp; omega)) _)))) (fun hHeld => ?_)
            clear hK K
            try simp only [Act.put, List.setIfInBounds_toArray, List.set_cons_zero, List.set_cons_succ]
            refine wpAnyH_ready (rs := [8]) (by kernel_rfl) (by simp) ?_
            refine AllReadyH.cons (o := _) rfl (fun K hK => ?_) AllReadyH.nil
            have hcur : Below wr.heap.size wr (wr.drew.alloc (.cells #[] 3)) := ((Below.refl _ _).drew).alloc (Nat.le_refl _) _
            have hE : (wr.drew.alloc (.cells #[] 3)).ownsRow wb.heap.size 3 1 (.slice (some ⟨wr.heap.size, 0, none⟩) 0 0) 0 [] := by simpa using (World.ownsRow_lit (base := wb.heap.size) (e := 3) (size := 1) wr.drew #[] 0 hbz (by decide) (by simp))
            have hSr := src_intsM (HgI.out.below hcur)
            refine step_append_src rfl _ _ 26 rfl wb.heap.size 3 i0 (.int .i64 0) 1 8 Try.underlying26 hinf hz0 hz1 hz2 rfl (by decide) (.slice (some ⟨wr.heap.size, 0, none⟩) 0 0) 0 [] (by rfl) hE A row.length c (row.map (Value.int .i64)) (by rfl) (by simp) hSr (ints_oneM row) (by unfold maxLen; omega) (by omega) (by first | (simp; done) | (simp; omega)) ?_
            intro v8 w8 hown8 hgr8
            have p8 : Below wr.heap.size wr w8 := hcur.grown hgr8 hcur.size (fun q hq => by simp [Value.ownBlock] at hq; omega)
            have p8b : Below wb.heap.size wb w8 := hbw.trans (p8.mono hbz)
            have hO8 : Own w8 wb.heap.size v8 row := by unfold Own; simpa using hown8
            obtain ⟨A8, c8, hv8⟩ : ∃ A c, v8 = .slice A row.length c := by
              rcases hO8.2 with ⟨hv, hn⟩ | ⟨g, c, cur, hv, _⟩
              · exact ⟨none, 0, by rw [hv, hn]⟩
              · exact ⟨_, _, hv⟩
            subst hv8
            have HO8 := hid hO8
            have HC8 := hid (HC.out.below p8)
            have x8 := HC8.out.c1
            have l8 := cell_lt x8
            have hz8 : wb.heap.size ≤ w8.heap.size := p8b.size
            clear hown8 hgr8 hE hSr hcur hO8
            refine hK.out _ _ (HKb.out _ p8b) (fun hHeld => ?_)
            clear hK K
            try simp only [Act.put, List.setIfInBounds_toArray, List.set_cons_zero, List.set_cons_succ]
            refine wpAnyH_ready (rs := [9]) (by kernel_rfl) (by simp) ?_
            refine AllReadyH.cons (o := _) rfl (fun K hK => ?_) AllReadyH.nil
            go_simp
            go_wp2_with fail
            refine hK.out _ _ (HKb.out _ (by repeat (first | exact hbw | exact p8b | apply Below.drew | (refine Below.alloc ?_ (by first | exact Below.size (by assumption) | omega | (simp; done) | (simp; omega)) _) | (refine Below.setCell ?_ (by first | exact hlo | omega | (simp; done) | (simp; omega)) _)))) (fun hHeld => ?_)
            clear hK K
            try simp only [Act.put, List.setIfInBounds_toArray, List.set_cons_zero, List.set_cons_succ]
            refine wpAnyH_ready (rs := [10]) (by kernel_rfl) (by simp) ?_
            refine AllReadyH.cons (o := _) rfl (fun K hK => ?_) AllReadyH.nil
            have hal9 : Below w8.heap.size w8 (w8.alloc (.cells #[.slice A8 row.length c8] 26)) := (Below.refl _ _).alloc (Nat.le_refl _) _
            have HC9 := hid (HC8.out.below hal9)
            obtain ⟨vals, hN9, hR9⟩ := HC9.out.N
            have HN9 := hid hN9
            have HR9 := hid hR9
            refine step_append_lies _ rfl _ _ 22 rfl wb.heap.size 26 j0 (.slice none 0 0) 1 24 Try.underlying22 hjnf hy0 hy1 hy2 rfl (by decide) vN tk.length vals (by rfl) (by exact hN9) ⟨w8.heap.size, 0, none⟩ 1 1 [.slice A8 row.length c8] (by rfl) rfl (World.news_of_block (cs := #[.slice A8 row.length c8]) (t := 26) (fr := (0, 0)) (heap_alloc_new w8 _)) (by simp [Value.oneCell']) (by decide) (by unfold maxLen; omega) (by omega) (by simp; omega) _ rfl ?_
            intro gU cU w9 hown9 hgr9 hat9 hlt9
            have HC10 := hid (CopP.push HC9.out HN9.out HR9.out (HO8.out.below hal9) hown9 hgr9)
            have hl9 : vN.ownBlock ≠ some g3 := by
              obtain ⟨cs, fr, hk⟩ := HC9.out.k
              exact own_ne HN9.out hk (by decide)
            have x9 := (grown_cell hgr9 (cell_lt HC9.out.c1) hl9).trans HC9.out.c1
            have f9 := (grown_frozen hgr9 (p := ⟨g3, 1, none⟩) (cell_lt HC9.out.c1) hl9).trans HC9.out.z1
            have p9 : Below wb.heap.size wb w9 := HC9.out.bel.grown hgr9 HC9.out.bel.size (fun q hq => by
              have := (World.ownsRow.lt HN9.out q hq).1; omega)
            clear hown9 hgr9 hat9 hlt9 hN9 hR9
            refine hK.out _ _ (HKb.out _ p9) (fun hHeld => ?_)
            clear hK K
            try simp only [Act.put, List.setIfInBounds_toArray, List.set_cons_zero, List.set_cons_succ]
            refine take_d (i := 11) (d := some 30) (v := ?_) rfl rfl (by kernel_rfl) (by kernel_rfl) (by kernel_rfl) (fun _ _ _ h => h) (Or.inl ⟨by first | rfl | (simp [*, Region.wanted, yielded]), ?hyq8⟩) (by assumption) ?restq8
            case hyq8 => (intro w hSw; (try dsimp only at hSw); go_simp <;> with_reducible rfl)
            try simp only [Act.put, List.setIfInBounds_toArray, List.set_cons_zero, List.set_cons_succ]
            refine wpAnyH_ready (rs := [12]) (by kernel_rfl) (by simp) ?_
            refine AllReadyH.cons (o := _) rfl (fun K hK => ?_) AllReadyH.nil
            go_simp
            go_wp2_with fail
            refine hK.out _ _ (HKb.out _ (by repeat (first | exact hbw | exact p8b | exact p9 | apply Below.drew | (refine Below.alloc ?_ (by first | exact Below.size (by assumption) | omega | (simp; done) | (simp; omega)) _) | (refine Below.setCell ?_ (by first | exact hlo | omega | (simp; done) | (simp; omega)) _)))) (fun hHeld => ?_)
            clear hK K
            try simp only [Act.put, List.setIfInBounds_toArray, List.set_cons_zero, List.set_cons_succ]
            refine wpAnyH_done (by kernel_rfl) ?_ _
            go_simp
            go_wp2
            go_roundw
            case rel => exact ⟨k + 1, _, by omega, by go_num, by rw [HTk.out]; exact HC10⟩
            case measure => simp [intOf]; omega
          · have hcur : Below wr.heap.size wr (wr.drew.alloc (.cells #[] 3)) := ((Below.refl _ _).drew).alloc (Nat.le_refl _) _
            have hE : (wr.drew.alloc (.cells #[] 3)).ownsRow wb.heap.size 3 1 (.slice (some ⟨wr.heap.size, 0, none⟩) 0 0) 0 [] := by simpa using (World.ownsRow_lit (base := wb.heap.size) (e := 3) (size := 1) wr.drew #[] 0 hbz (by decide) (by simp))
            have hSr := src_intsM (HgI.out.below hcur)
            refine step_append_src rfl _ _ 26 rfl wb.heap.size 3 i0 (.int .i64 0) 1 8 Try.underlying26 hinf hz0 hz1 hz2 rfl (by decide) (.slice (some ⟨wr.heap.size, 0, none⟩) 0 0) 0 [] (by rfl) hE A row.length c (row.map (Value.int .i64)) (by rfl) (by simp) hSr (ints_oneM row) (by unfold maxLen; omega) (by omega) (by first | (simp; done) | (simp; omega)) ?_
            intro v8 w8 hown8 hgr8
            have p8 : Below wr.heap.size wr w8 := hcur.grown hgr8 hcur.size (fun q hq => by simp [Value.ownBlock] at hq; omega)
            have p8b : Below wb.heap.size wb w8 := hbw.trans (p8.mono hbz)
            have hO8 : Own w8 wb.heap.size v8 row := by unfold Own; simpa using hown8
            obtain ⟨A8, c8, hv8⟩ : ∃ A c, v8 = .slice A row.length c := by
              rcases hO8.2 with ⟨hv, hn⟩ | ⟨g, c, cur, hv, _⟩
              · exact ⟨none, 0, by rw [hv, hn]⟩
              · exact ⟨_, _, hv⟩
            subst hv8
            have HO8 := hid hO8
            have HC8 := hid (HC.out.below p8)
            have x8 := HC8.out.c1
            have l8 := cell_lt x8
            have hz8 : wb.heap.size ≤ w8.heap.size := p8b.size
            clear hown8 hgr8 hE hSr hcur hO8
            refine hK.out _ _ (HKb.out _ p8b) (fun hHeld => ?_)
            clear hK K
            try simp only [Act.put, List.setIfInBounds_toArray, List.set_cons_zero, List.set_cons_succ]
            refine wpAnyH_ready (rs := [1, 9]) (by kernel_rfl) (by simp) ?_
            refine AllReadyH.cons (o := _) rfl (fun K hK => ?_) (AllReadyH.cons (o := _) rfl (fun K hK => ?_) AllReadyH.nil)
            · go_simp
              go_wp2_with fail
              refine hK.out _ _ (HKb.out _ (by repeat (first | exact hbw | exact p8b | apply Below.drew | (refine Below.alloc ?_ (by first | exact Below.size (by assumption) | omega | (simp; done) | (simp; omega)) _) | (refine Below.setCell ?_ (by first | exact hlo | omega | (simp; done) | (simp; omega)) _)))) (fun hHeld => ?_)
              clear hK K
              try simp only [Act.put, List.setIfInBounds_toArray, List.set_cons_zero, List.set_cons_succ]
              refine wpAnyH_ready (rs := [9]) (by kernel_rfl) (by simp) ?_
              refine AllReadyH.cons (o := _) rfl (fun K hK => ?_) AllReadyH.nil
              go_simp
              go_wp2_with fail
              refine hK.out _ _ (HKb.out _ (by repeat (first | exact hbw | exact p8b | apply Below.drew | (refine Below.alloc ?_ (by first | exact Below.size (by assumption) | omega | (simp; done) | (simp; omega)) _) | (refine Below.setCell ?_ (by first | exact hlo | omega | (simp; done) | (simp; omega)) _)))) (fun hHeld => ?_)
              clear hK K
              try simp only [Act.put, List.setIfInBounds_toArray, List.set_cons_zero, List.set_cons_succ]
              refine wpAnyH_ready (rs := [10]) (by kernel_rfl) (by simp) ?_
              refine AllReadyH.cons (o := _) rfl (fun K hK => ?_) AllReadyH.nil
              have hal9 : Below w8.heap.size w8 (w8.alloc (.cells #[.slice A8 row.length c8] 26)) := (Below.refl _ _).alloc (Nat.le_refl _) _
              have HC9 := hid (HC8.out.below hal9)
              obtain ⟨vals, hN9, hR9⟩ := HC9.out.N
              have HN9 := hid hN9
              have HR9 := hid hR9
              refine step_append_lies _ rfl _ _ 22 rfl wb.heap.size 26 j0 (.slice none 0 0) 1 24 Try.underlying22 hjnf hy0 hy1 hy2 rfl (by decide) vN tk.length vals (by rfl) (by exact hN9) ⟨w8.heap.size, 0, none⟩ 1 1 [.slice A8 row.length c8] (by rfl) rfl (World.news_of_block (cs := #[.slice A8 row.length c8]) (t := 26) (fr := (0, 0)) (heap_alloc_new w8 _)) (by simp [Value.oneCell']) (by decide) (by unfold maxLen; omega) (by omega) (by simp; omega) _ rfl ?_
              intro gU cU w9 hown9 hgr9 hat9 hlt9
              have HC10 := hid (CopP.push HC9.out HN9.out HR9.out (HO8.out.below hal9) hown9 hgr9)
              have hl9 : vN.ownBlock ≠ some g3 := by
                obtain ⟨cs, fr, hk⟩ := HC9.out.k
                exact own_ne HN9.out hk (by decide)
              have x9 := (grown_cell hgr9 (cell_lt HC9.out.c1) hl9).trans HC9.out.c1
              have f9 := (grown_frozen hgr9 (p := ⟨g3, 1, none⟩) (cell_lt HC9.out.c1) hl9).trans HC9.out.z1
              have p9 : Below wb.heap.size wb w9 := HC9.out.bel.grown hgr9 HC9.out.bel.size (fun q hq => by
                have := (World.ownsRow.lt HN9.out q hq).1; omega)
              clear hown9 hgr9 hat9 hlt9 hN9 hR9
              refine hK.out _ _ (HKb.out _ p9) (fun hHeld => ?_)
              clear hK K
              try simp only [Act.put, List.setIfInBounds_toArray, List.set_cons_zero, List.set_cons_succ]
              refine take_d (i := 11) (d := some 30) (v := ?_) rfl rfl (by kernel_rfl) (by kernel_rfl) (by kernel_rfl) (fun _ _ _ h => h) (Or.inl ⟨by first | rfl | (simp [*, Region.wanted, yielded]), ?hyq9⟩) (by assumption) ?restq9
              case hyq9 => (intro w hSw; (try dsimp only at hSw); go_simp <;> with_reducible rfl)
              try simp only [Act.put, List.setIfInBounds_toArray, List.set_cons_zero, List.set_cons_succ]
              refine wpAnyH_ready (rs := [12]) (by kernel_rfl) (by simp) ?_
              refine AllReadyH.cons (o := _) rfl (fun K hK => ?_) AllReadyH.nil
              go_simp
              go_wp2_with fail
              refine hK.out _ _ (HKb.out _ (by repeat (first | exact hbw | exact p8b | exact p9 | apply Below.drew | (refine Below.alloc ?_ (by first | exact Below.size (by assumption) | omega | (simp; done) | (simp; omega)) _) | (refine Below.setCell ?_ (by first | exact hlo | omega | (simp; done) | (simp; omega)) _)))) (fun hHeld => ?_)
              clear hK K
              try simp only [Act.put, List.setIfInBounds_toArray, List.set_cons_zero, List.set_cons_succ]
              refine wpAnyH_done (by kernel_rfl) ?_ _
              go_simp
              go_wp2
              go_roundw
              case rel => exact ⟨k + 1, _, by omega, by go_num, by rw [HTk.out]; exact HC10⟩
              case measure => simp [intOf]; omega
            · go_simp
              go_wp2_with fail
              refine hK.out _ _ (HKb.out _ (by repeat (first | exact hbw | exact p8b | apply Below.drew | (refine Below.alloc ?_ (by first | exact Below.size (by assumption) | omega | (simp; done) | (simp; omega)) _) | (refine Below.setCell ?_ (by first | exact hlo | omega | (simp; done) | (simp; omega)) _)))) (fun hHeld => ?_)
              clear hK K
              try simp only [Act.put, List.setIfInBounds_toArray, List.set_cons_zero, List.set_cons_succ]
              refine wpAnyH_ready (rs := [1]) (by kernel_rfl) (by simp) ?_
              refine AllReadyH.cons (o := _) rfl (fun K hK => ?_) AllReadyH.nil
              go_simp
              go_wp2_with fail
              refine hK.out _ _ (HKb.out _ (by repeat (first | exact hbw | exact p8b | apply Below.drew | (refine Below.alloc ?_ (by first | exact Below.size (by assumption) | omega | (simp; done) | (simp; omega)) _) | (refine Below.setCell ?_ (by first | exact hlo | omega | (simp; done) | (simp; omega)) _)))) (fun hHeld => ?_)
              clear hK K
              try simp only [Act.put, List.setIfInBounds_toArray, List.set_cons_zero, List.set_cons_succ]
              refine wpAnyH_ready (rs := [10]) (by kernel_rfl) (by simp) ?_
              refine AllReadyH.cons (o := _) rfl (fun K hK => ?_) AllReadyH.nil
              have hal9 : Below w8.heap.size w8 (w8.alloc (.cells #[.slice A8 row.length c8] 26)) := (Below.refl _ _).alloc (Nat.le_refl _) _
              have HC9 := hid (HC8.out.below hal9)
              obtain ⟨vals, hN9, hR9⟩ := HC9.out.N
              have HN9 := hid hN9
              have HR9 := hid hR9
              refine step_append_lies _ rfl _ _ 22 rfl wb.heap.size 26 j0 (.slice none 0 0) 1 24 Try.underlying22 hjnf hy0 hy1 hy2 rfl (by decide) vN tk.length vals (by rfl) (by exact hN9) ⟨w8.heap.size, 0, none⟩ 1 1 [.slice A8 row.length c8] (by rfl) rfl (World.news_of_block (cs := #[.slice A8 row.length c8]) (t := 26) (fr := (0, 0)) (heap_alloc_new w8 _)) (by simp [Value.oneCell']) (by decide) (by unfold maxLen; omega) (by omega) (by simp; omega) _ rfl ?_
              intro gU cU w9 hown9 hgr9 hat9 hlt9
              have HC10 := hid (CopP.push HC9.out HN9.out HR9.out (HO8.out.below hal9) hown9 hgr9)
              have hl9 : vN.ownBlock ≠ some g3 := by
                obtain ⟨cs, fr, hk⟩ := HC9.out.k
                exact own_ne HN9.out hk (by decide)
              have x9 := (grown_cell hgr9 (cell_lt HC9.out.c1) hl9).trans HC9.out.c1
              have f9 := (grown_frozen hgr9 (p := ⟨g3, 1, none⟩) (cell_lt HC9.out.c1) hl9).trans HC9.out.z1
              have p9 : Below wb.heap.size wb w9 := HC9.out.bel.grown hgr9 HC9.out.bel.size (fun q hq => by
                have := (World.ownsRow.lt HN9.out q hq).1; omega)
              clear hown9 hgr9 hat9 hlt9 hN9 hR9
              refine hK.out _ _ (HKb.out _ p9) (fun hHeld => ?_)
              clear hK K
              try simp only [Act.put, List.setIfInBounds_toArray, List.set_cons_zero, List.set_cons_succ]
              refine take_d (i := 11) (d := some 30) (v := ?_) rfl rfl (by kernel_rfl) (by kernel_rfl) (by kernel_rfl) (fun _ _ _ h => h) (Or.inl ⟨by first | rfl | (simp [*, Region.wanted, yielded]), ?hyq10⟩) (by assumption) ?restq10
              case hyq10 => (intro w hSw; (try dsimp only at hSw); go_simp <;> with_reducible rfl)
              try simp only [Act.put, List.setIfInBounds_toArray, List.set_cons_zero, List.set_cons_succ]
              refine wpAnyH_ready (rs := [12]) (by kernel_rfl) (by simp) ?_
              refine AllReadyH.cons (o := _) rfl (fun K hK => ?_) AllReadyH.nil
              go_simp
              go_wp2_with fail
              refine hK.out _ _ (HKb.out _ (by repeat (first | exact hbw | exact p8b | exact p9 | apply Below.drew | (refine Below.alloc ?_ (by first | exact Below.size (by assumption) | omega | (simp; done) | (simp; omega)) _) | (refine Below.setCell ?_ (by first | exact hlo | omega | (simp; done) | (simp; omega)) _)))) (fun hHeld => ?_)
              clear hK K
              try simp only [Act.put, List.setIfInBounds_toArray, List.set_cons_zero, List.set_cons_succ]
              refine wpAnyH_done (by kernel_rfl) ?_ _
              go_simp
              go_wp2
              go_roundw
              case rel => exact ⟨k + 1, _, by omega, by go_num, by rw [HTk.out]; exact HC10⟩
              case measure => simp [intOf]; omega
      · obtain rfl : k = rows.length := by omega
        have hkf : ¬ (rows.length : Int) < (rows.length : Int) := by omega
        have HC := hid (show CopP wb wr g3 L rows vN accs vA from by have := HC.out; rw [List.take_length] at this; exact this)
        obtain ⟨⟨r0, r1, r2⟩, rf⟩ := HRes.out
        have hs0 := HS0.out
        have z0 := (hbw.cell (cell_lt r0)).trans r0
        have z1 := (hbw.cell (cell_lt r1)).trans r1
        have z2 := (hbw.cell (cell_lt r2)).trans r2
        have y0 := (hbw.frozen (p := ⟨w.heap.size + 1, 0, none⟩) (cell_lt r0)).trans (rf 0)
        have y1 := (hbw.frozen (p := ⟨w.heap.size + 1, 1, none⟩) (cell_lt r1)).trans (rf 1)
        have y2 := (hbw.frozen (p := ⟨w.heap.size + 1, 2, none⟩) (cell_lt r2)).trans (rf 2)
        have c0 := HC.out.c0
        have c1 := HC.out.c1
        have c2 := HC.out.c2
        obtain ⟨Na5, nc5, Aa5, ac5, hvN, hvA, hMA⟩ := copy_mach (w := ((wr.setCell ⟨w.heap.size + 1, 0, none⟩ (.int .i64 L)).setCell ⟨w.heap.size + 1, 1, none⟩ vN).setCell ⟨w.heap.size + 1, 2, none⟩ vA) (((HC.out.N.setLow _ _ (by dsimp only; omega)).setLow _ _ (by dsimp only; omega)).setLow _ _ (by dsimp only; omega)) (own_setLow (own_setLow (own_setLow HC.out.A _ _ (by dsimp only; omega)) _ _ (by dsimp only; omega)) _ _ (by dsimp only; omega)) hrl (fun r hr => ⟨HRl.out r hr, fun x hx => by
          rcases HM.out.nat_ with e | ⟨b, o, hA, hc⟩
          · rw [e] at hr; simp at hr
          · obtain ⟨i, hi, rfl⟩ := List.getElem_of_mem hr
            obtain ⟨A, c, g1, gI⟩ := hc i hi
            rw [List.getElem?_eq_getElem hi] at gI
            exact gI.bd x hx⟩) hal
        have HMz := hid hMA
        have HBb := hid ((((HB1.out.trans (hbw.mono HB1.out.size)).setCell (p := ⟨w.heap.size + 1, 0, none⟩) (by simp) (.int .i64 L)).setCell (p := ⟨w.heap.size + 1, 1, none⟩) (by simp) vN).setCell (p := ⟨w.heap.size + 1, 2, none⟩) (by simp) vA)
        subst hvN hvA
        clear r0 r1 r2 rf hMA hbw
        go_wp2
        have t0 : (((wr.setCell ⟨w.heap.size + 1, 0, none⟩ (.int .i64 L)).setCell ⟨w.heap.size + 1, 1, none⟩ (.slice Na5 rows.length nc5)).setCell ⟨w.heap.size + 1, 2, none⟩ (.slice Aa5 accs.length ac5)).cell? ⟨w.heap.size + 1, 0, none⟩ = some (.int .i64 L) := by go_simp
        have t1 : (((wr.setCell ⟨w.heap.size + 1, 0, none⟩ (.int .i64 L)).setCell ⟨w.heap.size + 1, 1, none⟩ (.slice Na5 rows.length nc5)).setCell ⟨w.heap.size + 1, 2, none⟩ (.slice Aa5 accs.length ac5)).cell? ⟨w.heap.size + 1, 1, none⟩ = some (.slice Na5 rows.length nc5) := by go_simp
        have t2 : (((wr.setCell ⟨w.heap.size + 1, 0, none⟩ (.int .i64 L)).setCell ⟨w.heap.size + 1, 1, none⟩ (.slice Na5 rows.length nc5)).setCell ⟨w.heap.size + 1, 2, none⟩ (.slice Aa5 accs.length ac5)).cell? ⟨w.heap.size + 1, 2, none⟩ = some (.slice Aa5 accs.length ac5) := by go_simp
        generalize (((wr.setCell ⟨w.heap.size + 1, 0, none⟩ (.int .i64 L)).setCell ⟨w.heap.size + 1, 1, none⟩ (.slice Na5 rows.length nc5)).setCell ⟨w.heap.size + 1, 2, none⟩ (.slice Aa5 accs.length ac5)) = wz at *
        refine bodyPost_ret (v := machV L Na5 rows.length nc5 Aa5 accs.length ac5) (by simp [machV, results, Try.results25, go_sem, t0, t1, t2]) rfl ⟨HBb.out, Na5, nc5, Aa5, ⟨ac5, rfl⟩, HMz.out⟩
end Go.Proofs.Ytkboeldafppicaa
