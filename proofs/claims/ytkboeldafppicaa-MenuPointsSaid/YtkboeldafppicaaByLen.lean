/- Numbers for each length and state: byLength of package menu. -/
import Derived.Test.YtkboeldafppicaaTabW
import Derived.Test.YtkboeldafppicaaViewP
import Derived.Test.YtkboeldafppicaaMAcc
import Derived.Test.YtkboeldafppicaaTakeD
import Derived.Deep.LoopGhost
set_option linter.unusedVariables false
set_option linter.unusedSimpArgs false
namespace Go.Proofs.Ytkboeldafppicaa
open Go.RowKit

set_option maxRecDepth 100000 in
set_option maxHeartbeats 8000000 in
theorem byLength_any (L n nc ac : Nat) (Na Aa : Option Addr) (rows : List (List Int)) (accs : List Bool) (accd refd : Int) (T : Nat → Nat → Int) (fN : Nat) (preN postN : Array Value) (w : World) (h : MachAt w Na rows Aa accs) (hg : GoodM L rows accs) (hn : n ≤ 20) (hn5 : rows.length ≤ 5000)
    (hT0 : ∀ s, s < rows.length → T 0 s = if mA accs s = true then accd else refd) (hI : ∀ k s, k ≤ n → s < rows.length → I64 (T k s))
    (egN : ∀ args w, (callFunc fN args).run Try.prog w = .ok (.enter fN args) w)
    (hlong : ∀ (w' : World) (k s : Nat) (K : Option Addr), Below w.heap.size w w' → k < n → s < rows.length → Ints w' K ((List.range rows.length).map (T k)) → Calls Try.prog fN (preN ++ (#[.int .i64 s, .slice K rows.length rows.length] ++ postN)) w' fun e w'' => Below w'.heap.size w' w'' ∧ e = .returned (.int .i64 (T (k + 1) s))) :
    Calls Try.prog 135 #[machV L Na rows.length nc Aa rows.length ac, .int .i64 (n : Int), .int .i64 accd, .int .i64 refd, .func (.func fN) preN postN] w fun e w' => Below w.heap.size w w' ∧ ∃ gT G, e = .returned (.slice (some ⟨gT, 0, none⟩) (n + 1) (n + 1)) ∧ TabW w' w.heap.size gT (n + 1) rows.length T G (n + 1) := by
  have HH := hid h
  have HG := hid hg
  have HL := hid hlong
  have HT0 := hid hT0
  have HI := hid hI
  have hmk := make_intsM rows.length (by omega)
  have hmr := make_rowsM (n + 1) (by omega)
  have ecast : ((n + 1 : Nat) : Int) = (n : Int) + 1 := by omega
  rw [ecast] at hmr
  have hA : Below w.heap.size w (w.alloc (machO L Na rows.length nc Aa rows.length ac)) := (Below.refl _ _).alloc (Nat.le_refl _) _
  have HB0 := hid (hA.alloc hA.size (.cells (List.replicate (n + 1) (Value.slice none 0 0)).toArray 26))
  have HTb := hid (show TabW ((w.alloc (machO L Na rows.length nc Aa rows.length ac)).alloc (.cells (List.replicate (n + 1) (Value.slice none 0 0)).toArray 26)) (w.heap.size + 1) (w.heap.size + 1) (n + 1) rows.length T (fun _ => 0) 0 from ⟨⟨List.replicate (n + 1) (Value.slice none 0 0), by simp, by have := CBox.made (w.alloc (machO L Na rows.length nc Aa rows.length ac)) 26 (n + 1) (.slice none 0 0); simpa using this, fun i hi => by omega⟩, fun i hi => by omega, fun i hi => by omega, by omega⟩)
  have c0 : ((w.alloc (machO L Na rows.length nc Aa rows.length ac)).alloc (.cells (List.replicate (n + 1) (Value.slice none 0 0)).toArray 26)).cell? ⟨w.heap.size, 0, none⟩ = some (.int .i64 (L : Int)) := by go_simp
  have c1 : ((w.alloc (machO L Na rows.length nc Aa rows.length ac)).alloc (.cells (List.replicate (n + 1) (Value.slice none 0 0)).toArray 26)).cell? ⟨w.heap.size, 1, none⟩ = some (.slice Na rows.length nc) := by go_simp
  have c2 : ((w.alloc (machO L Na rows.length nc Aa rows.length ac)).alloc (.cells (List.replicate (n + 1) (Value.slice none 0 0)).toArray 26)).cell? ⟨w.heap.size, 2, none⟩ = some (.slice Aa rows.length ac) := by go_simp
  have hw1 : wrap64 ((n : Int) + 1) = (n : Int) + 1 := by unfold wrap64; omega
  clear h hg hlong hT0 hI hA
  unfold machV
  go_enter Try.func135, Try.ntmps135
  go_wp2
  go_loopg [19] (n + 1) (fun gk i wr => ∃ (k : Nat) (G : Nat → Nat), k + gk = n + 1 ∧ i = .int .i64 (k : Int) ∧ Hid (TabW wr (w.heap.size + 1) (w.heap.size + 1) (n + 1) rows.length T G k) ∧ Hid (Below w.heap.size w wr) ∧ wr.cell? ⟨w.heap.size, 0, none⟩ = some (.int .i64 (L : Int)) ∧ wr.cell? ⟨w.heap.size, 1, none⟩ = some (.slice Na rows.length nc) ∧ wr.cell? ⟨w.heap.size, 2, none⟩ = some (.slice Aa rows.length ac))
  case atStart => exact ⟨0, fun _ => 0, by omega, rfl, HTb.out, HB0.out, c0, c1, c2⟩
  case round =>
    clear c0 c1 c2 HTb HB0
    obtain ⟨k, G, hk, rfl, HTb, HB, c0, c1, c2⟩ := hrel
    obtain ⟨wo, hwo⟩ : ∃ x, x = wr := ⟨_, rfl⟩
    subst hwo
    by_cases hkn : k < n + 1
    · obtain ⟨go', hgo⟩ : ∃ f, gk = f + 1 := ⟨gk - 1, by omega⟩
      subst hgo
      have hsz := HTb.out.out.elim (fun vals hh => hh.2.1.lt)
      obtain ⟨v0, r1⟩ : ∃ v0, wo.cell? ⟨w.heap.size + 1, k, none⟩ = some v0 := by
        obtain ⟨vals, e1, e2, _⟩ := HTb.out.out
        exact ⟨_, e2.cell k _ (List.getElem?_eq_getElem (by omega))⟩
      have r2 : wo.frozen? ⟨w.heap.size + 1, k, none⟩ = false := by
        obtain ⟨vals, e1, e2, _⟩ := HTb.out.out
        exact e2.frozen k
      have hW5 : ∃ W5, W5 = (wo.alloc (.cells (List.replicate rows.length (Value.int .i64 0)).toArray 3)).setCell ⟨w.heap.size + 1, k, none⟩ (.slice (some ⟨wo.heap.size, 0, none⟩) rows.length rows.length) := ⟨_, rfl⟩
      obtain ⟨W5, hW5⟩ := hW5
      have hW5' : (wo.setCell ⟨w.heap.size + 1, k, none⟩ (.slice (some ⟨wo.heap.size, 0, none⟩) rows.length rows.length)).alloc (.cells (List.replicate rows.length (Value.int .i64 0)).toArray 3) = W5 := by
        rw [hW5, World.setCell_alloc_past _ _ _ _ hsz]
      rw [List.toArray_replicate] at hW5'
      have hki : (k : Int) < (n : Int) + 1 := by omega
      have HSp := hid (fun wz (hb : Below wo.heap.size W5 wz) hrow => HTb.out.step hkn (by omega) (.cells (List.replicate rows.length (Value.int .i64 0)).toArray 3) (by rw [← hW5]; exact hb) hrow (wz := wz))
      have HI5 := hid (show IBox W5 wo.heap.size (vnum rows.length (T k) 0) by
        rw [hW5]
        have := (IBox.made wo rows.length).other ⟨w.heap.size + 1, k, none⟩ (.slice (some ⟨wo.heap.size, 0, none⟩) rows.length rows.length) (by simp; omega)
        rw [show vnum rows.length (T k) 0 = List.replicate rows.length 0 from rowPad_nil _]
        exact this)
      have HBw5 := hid (show Below w.heap.size w W5 by
        rw [hW5]; exact (HB.out.alloc HB.out.size _).setCell (p := ⟨w.heap.size + 1, k, none⟩) (by simp) _)
      have HTp := hid (show ∀ i, i < k → W5.cell? ⟨w.heap.size + 1, i, none⟩ = some (.slice (some ⟨G i, 0, none⟩) rows.length rows.length) ∧ Ints W5 (some ⟨G i, 0, none⟩) ((List.range rows.length).map (T i)) from fun i hi => by
        have hA : Below wo.heap.size wo (wo.alloc (.cells (List.replicate rows.length (Value.int .i64 0)).toArray 3)) := (Below.refl _ _).alloc (Nat.le_refl _) _
        have h1 := HTb.out.cell i hi
        have h2 := (HTb.out.rows i hi).below hA
        rw [hW5]
        exact ⟨by rw [World.cell?_setCell_other _ _ _ _ (by simp only [ne_eq, Addr.mk.injEq]; omega), hA.cell (cell_lt h1)]; exact h1, (h2.other _ _ (HTb.out.ne i hi).2).ints (by simp; omega) (fun x hx => by obtain ⟨s, hs, rfl⟩ := List.mem_map.1 hx; exact HI.out i s (by omega) (List.mem_range.1 hs))⟩)
      have e0 : W5.cell? ⟨w.heap.size, 0, none⟩ = some (.int .i64 (L : Int)) := by rw [hW5, World.cell?_setCell_other _ _ _ _ (by simp), ((Below.refl wo.heap.size wo).alloc (Nat.le_refl _) _).cell (cell_lt c0)]; exact c0
      have e1 : W5.cell? ⟨w.heap.size, 1, none⟩ = some (.slice Na rows.length nc) := by rw [hW5, World.cell?_setCell_other _ _ _ _ (by simp), ((Below.refl wo.heap.size wo).alloc (Nat.le_refl _) _).cell (cell_lt c1)]; exact c1
      have e2 : W5.cell? ⟨w.heap.size, 2, none⟩ = some (.slice Aa rows.length ac) := by rw [hW5, World.cell?_setCell_other _ _ _ _ (by simp), ((Below.refl wo.heap.size wo).alloc (Nat.le_refl _) _).cell (cell_lt c2)]; exact c2
      have e3 : W5.cell? ⟨w.heap.size + 1, k, none⟩ = some (.slice (some ⟨wo.heap.size, 0, none⟩) rows.length rows.length) := by
        rw [hW5]; exact World.cell?_setCell_same _ _ _ (((Below.refl wo.heap.size wo).alloc (Nat.le_refl _) _).cell hsz |>.trans r1)
      have hs5 : W5.heap.size = wo.heap.size + 1 := by rw [hW5]; simp
      have HW5 := hid hW5
      clear hW5
      go_wp2
      clear hW5' r1 r2
      generalize hgr : wo.heap.size = gr at *
      have hgrw : w.heap.size + 1 < gr := hsz
      have HWo := hid hgr
      clear hgr
      by_cases hk0 : k = 0
      · subst hk0
        go_loopg [32] rows.length (fun g2 i wr => ∃ (m : Nat), m + g2 = rows.length ∧ i = .int .i64 (m : Int) ∧ Hid (IBox wr gr (vnum rows.length (T 0) m)) ∧ Hid (Below gr W5 wr) ∧ wr.cell? ⟨w.heap.size, 0, none⟩ = some (.int .i64 (L : Int)) ∧ wr.cell? ⟨w.heap.size, 1, none⟩ = some (.slice Na rows.length nc) ∧ wr.cell? ⟨w.heap.size, 2, none⟩ = some (.slice Aa rows.length ac) ∧ wr.cell? ⟨w.heap.size + 1, 0, none⟩ = some (.slice (some ⟨gr, 0, none⟩) rows.length rows.length))
        case atStart => exact ⟨0, by omega, rfl, HI5.out, Below.refl _ _, e0, e1, e2, e3⟩
        case round =>
          clear e0 e1 e2 e3 HI5
          obtain ⟨m, hm, rfl, HIb, HBr, e0, e1, e2, e3⟩ := hrel
          have hgrl := HIb.out.lt
          by_cases hlt : m < rows.length
          · obtain ⟨g2', hg2⟩ : ∃ f, gk = f + 1 := ⟨gk - 1, by omega⟩
            subst hg2
            have hm0 : (m : Int) < (rows.length : Int) := by omega
            have hvl : (vnum rows.length (T 0) m).length = rows.length := vnum_len _ _ _ (by omega)
            have s1 := HIb.out.cell m (by rw [hvl]; exact hlt)
            have s2 := HIb.out.frozen m
            have HVs := hid (vnum_succ rows.length (T 0) m hlt)
            clear hvl

            have HT0m := hid (HT0.out m hlt)
            go_wp2_with fail
            refine (accepts_any L m nc ac rows.length rows.length Na Aa rows accs wr (HH.out.below (HBw5.out.trans (HBr.out.mono (show w.heap.size ≤ gr by omega)))) (by rw [HG.out.acc]; exact hlt) HG.out.acc.symm).mono ?_
            rintro e w7 ⟨rfl, rfl⟩
            have hA7 : Below wr.heap.size wr (wr.alloc (machO L Na rows.length nc Aa rows.length ac)) := (Below.refl _ _).alloc (Nat.le_refl _) _
            have x0 := (hA7.cell (cell_lt e0)).trans e0
            have x1 := (hA7.cell (cell_lt e1)).trans e1
            have x2 := (hA7.cell (cell_lt e2)).trans e2
            have x3 := (hA7.cell (cell_lt e3)).trans e3
            have x4 := (hA7.cell (cell_lt s1)).trans s1
            have x5 := (hA7.frozen (p := ⟨gr, m, none⟩) hgrl).trans s2
            have HB7 := hid (HBr.out.trans (hA7.mono (Nat.le_of_lt hgrl)))
            cases hb : mA accs m with
            | true =>
                rw [hb] at HT0m
                have HT0v := hid (show T 0 m = accd from HT0m.out.trans (by simp))
                have HI2 := hid ((HIb.out.below hA7).set m (accd))
                rw [show IBox ((wr.alloc (machO L Na rows.length nc Aa rows.length ac)).setCell ⟨gr, m, none⟩ (.int .i64 (accd))) gr ((vnum rows.length (T 0) m).set m (accd)) = IBox ((wr.alloc (machO L Na rows.length nc Aa rows.length ac)).setCell ⟨gr, m, none⟩ (.int .i64 (accd))) gr (vnum rows.length (T 0) (m + 1)) by rw [← HVs.out, HT0v.out]] at HI2
                have HB2 := hid (HB7.out.setCell (p := ⟨gr, m, none⟩) (Nat.le_refl _) (.int .i64 (accd)))
                have y0 := (World.cell?_setCell_other (w := wr.alloc (machO L Na rows.length nc Aa rows.length ac)) (a := ⟨gr, m, none⟩) (b := ⟨w.heap.size, 0, none⟩) (.int .i64 (accd)) (by simp only [ne_eq, Addr.mk.injEq]; omega)).trans x0
                have y1 := (World.cell?_setCell_other (w := wr.alloc (machO L Na rows.length nc Aa rows.length ac)) (a := ⟨gr, m, none⟩) (b := ⟨w.heap.size, 1, none⟩) (.int .i64 (accd)) (by simp only [ne_eq, Addr.mk.injEq]; omega)).trans x1
                have y2 := (World.cell?_setCell_other (w := wr.alloc (machO L Na rows.length nc Aa rows.length ac)) (a := ⟨gr, m, none⟩) (b := ⟨w.heap.size, 2, none⟩) (.int .i64 (accd)) (by simp only [ne_eq, Addr.mk.injEq]; omega)).trans x2
                have y3 := (World.cell?_setCell_other (w := wr.alloc (machO L Na rows.length nc Aa rows.length ac)) (a := ⟨gr, m, none⟩) (b := ⟨w.heap.size + 1, 0, none⟩) (.int .i64 (accd)) (by simp only [ne_eq, Addr.mk.injEq]; omega)).trans x3
                clear hb hA7
                generalize wr.alloc (machO L Na rows.length nc Aa rows.length ac) = wz at *
                go_wp2
                go_roundg g2'
                case rel => exact ⟨m + 1, by omega, by go_num, HI2.out, HB2.out, y0, y1, y2, y3⟩
                all_goals omega
            | false =>
                rw [hb] at HT0m
                have HT0v := hid (show T 0 m = refd from HT0m.out.trans (by simp))
                have HI2 := hid ((HIb.out.below hA7).set m (refd))
                rw [show IBox ((wr.alloc (machO L Na rows.length nc Aa rows.length ac)).setCell ⟨gr, m, none⟩ (.int .i64 (refd))) gr ((vnum rows.length (T 0) m).set m (refd)) = IBox ((wr.alloc (machO L Na rows.length nc Aa rows.length ac)).setCell ⟨gr, m, none⟩ (.int .i64 (refd))) gr (vnum rows.length (T 0) (m + 1)) by rw [← HVs.out, HT0v.out]] at HI2
                have HB2 := hid (HB7.out.setCell (p := ⟨gr, m, none⟩) (Nat.le_refl _) (.int .i64 (refd)))
                have y0 := (World.cell?_setCell_other (w := wr.alloc (machO L Na rows.length nc Aa rows.length ac)) (a := ⟨gr, m, none⟩) (b := ⟨w.heap.size, 0, none⟩) (.int .i64 (refd)) (by simp only [ne_eq, Addr.mk.injEq]; omega)).trans x0
                have y1 := (World.cell?_setCell_other (w := wr.alloc (machO L Na rows.length nc Aa rows.length ac)) (a := ⟨gr, m, none⟩) (b := ⟨w.heap.size, 1, none⟩) (.int .i64 (refd)) (by simp only [ne_eq, Addr.mk.injEq]; omega)).trans x1
                have y2 := (World.cell?_setCell_other (w := wr.alloc (machO L Na rows.length nc Aa rows.length ac)) (a := ⟨gr, m, none⟩) (b := ⟨w.heap.size, 2, none⟩) (.int .i64 (refd)) (by simp only [ne_eq, Addr.mk.injEq]; omega)).trans x2
                have y3 := (World.cell?_setCell_other (w := wr.alloc (machO L Na rows.length nc Aa rows.length ac)) (a := ⟨gr, m, none⟩) (b := ⟨w.heap.size + 1, 0, none⟩) (.int .i64 (refd)) (by simp only [ne_eq, Addr.mk.injEq]; omega)).trans x3
                clear hb hA7
                generalize wr.alloc (machO L Na rows.length nc Aa rows.length ac) = wz at *
                go_wp2
                go_roundg g2'
                case rel => exact ⟨m + 1, by omega, by go_num, HI2.out, HB2.out, y0, y1, y2, y3⟩
                all_goals omega
          · obtain rfl : m = rows.length := by omega
            have hfull : vnum rows.length (T 0) rows.length = (List.range rows.length).map (T 0) := by
              unfold vnum; exact rowPad_full _ _ (by simp)
            have HI9 := HIb.out
            rw [hfull] at HI9
            have HT9 := hid (HSp.out wr HBr.out HI9)
            have HB9 := hid (HBw5.out.trans (HBr.out.mono (show w.heap.size ≤ gr by omega)))
            clear hfull HI9
            go_wp2
            go_roundg go'
            case rel => exact ⟨0 + 1, _, by omega, by go_num, HT9.out, HB9.out, e0, e1, e2⟩
            all_goals omega

      · obtain ⟨k, rfl⟩ : ∃ q, k = q + 1 := ⟨k - 1, by omega⟩
        have HGi := hid (show ∀ i, i < k + 1 → ∀ wx, Below gr W5 wx → Ints wx (some ⟨G i, 0, none⟩) ((List.range rows.length).map (T i)) from fun i hi wx hb => by
          have hr := HTb.out.rows i hi
          have h5 := (HTp.out i hi).2
          have hl := hr.lt
          rw [HWo.out] at hl
          refine ⟨h5.len, ?_, h5.bd⟩
          rcases h5.at_ with e | ⟨b, o, hA, hc⟩
          · exact .inl e
          · have hb2 : b = G i := by simp only [Option.some.injEq, Addr.mk.injEq, and_true] at hA; exact hA.1.symm
            exact .inr ⟨b, o, hA, fun j hj => by rw [hb.cell (by dsimp only; omega)]; exact hc j hj⟩)
        go_loopg [32] rows.length (fun g2 i wr => ∃ (m : Nat), m + g2 = rows.length ∧ i = .int .i64 (m : Int) ∧ Hid (IBox wr gr (vnum rows.length (T (k + 1)) m)) ∧ Hid (Below gr W5 wr) ∧ wr.cell? ⟨w.heap.size, 0, none⟩ = some (.int .i64 (L : Int)) ∧ wr.cell? ⟨w.heap.size, 1, none⟩ = some (.slice Na rows.length nc) ∧ wr.cell? ⟨w.heap.size, 2, none⟩ = some (.slice Aa rows.length ac) ∧ wr.cell? ⟨w.heap.size + 1, k + 1, none⟩ = some (.slice (some ⟨gr, 0, none⟩) rows.length rows.length))
        case atStart => exact ⟨0, by omega, rfl, HI5.out, Below.refl _ _, e0, e1, e2, e3⟩
        case round =>
          clear e0 e1 e2 e3 HI5
          obtain ⟨m, hm, rfl, HIb, HBr, e0, e1, e2, e3⟩ := hrel
          have hgrl := HIb.out.lt
          by_cases hlt : m < rows.length
          · obtain ⟨g2', hg2⟩ : ∃ f, gk = f + 1 := ⟨gk - 1, by omega⟩
            subst hg2
            have hm0 : (m : Int) < (rows.length : Int) := by omega
            have hvl : (vnum rows.length (T (k + 1)) m).length = rows.length := vnum_len _ _ _ (by omega)
            have s1 := HIb.out.cell m (by rw [hvl]; exact hlt)
            have s2 := HIb.out.frozen m
            have HVs := hid (vnum_succ rows.length (T (k + 1)) m hlt)
            clear hvl

            obtain ⟨g4, g5⟩ := HTp.out k (by omega)
            have hg4 := (HBr.out.cell (p := ⟨w.heap.size + 1, k, none⟩) (by dsimp only; omega)).trans g4
            have hki2 : (k : Int) < (n : Int) + 1 := by omega
            have hkpos : (0 : Int) < (k : Int) + 1 := by omega
            have hkpos2 : (0 : Int) ≤ (k : Int) + 1 := by omega
            have hkn2 : k < n := by omega
            have hkw2 : IntKind.i64.wrap (k : Int) = (k : Int) := by rw [IntKind.wrap_i64]; omega
            have hr1 : Below wr.heap.size wr wr := Below.refl _ _
            have HNx := hid (show ∀ wx, Below wr.heap.size wr wx → Calls Try.prog fN (preN ++ (#[.int .i64 (m : Int), .slice (some ⟨G k, 0, none⟩) rows.length rows.length] ++ postN)) wx (fun e w'' => Below wx.heap.size wx w'' ∧ e = .returned (.int .i64 (T (k + 1) m))) from fun wx hb => HL.out wx k m (some ⟨G k, 0, none⟩) ((HBw5.out.trans (HBr.out.mono (show w.heap.size ≤ gr by omega))).trans (hb.mono (by have := HB.out.size; omega))) (by omega) hlt ((HGi.out k (by omega) wr HBr.out).below hb))
            have HKp := hid (show ∀ wx, Below wr.heap.size wr wx → wx.cell? ⟨w.heap.size + 1, k + 1, none⟩ = some (.slice (some ⟨gr, 0, none⟩) rows.length rows.length) ∧ wx.cell? ⟨w.heap.size + 1, k, none⟩ = some (.slice (some ⟨G k, 0, none⟩) rows.length rows.length) from fun wx hb => ⟨(hb.cell (cell_lt e3)).trans e3, (hb.cell (cell_lt hg4)).trans hg4⟩)
            have HKs := hid (show ∀ wx u, Below wr.heap.size wr wx → (wx.setCell ⟨gr, m, none⟩ u).cell? ⟨w.heap.size + 1, k + 1, none⟩ = some (.slice (some ⟨gr, 0, none⟩) rows.length rows.length) ∧ (wx.setCell ⟨gr, m, none⟩ u).cell? ⟨w.heap.size + 1, k, none⟩ = some (.slice (some ⟨G k, 0, none⟩) rows.length rows.length) from fun wx u hb => by
              rw [World.cell?_setCell_other _ _ _ _ (by simp only [ne_eq, Addr.mk.injEq]; omega), World.cell?_setCell_other _ _ _ _ (by simp only [ne_eq, Addr.mk.injEq]; omega)]
              exact HKp.out wx hb)
            have HX := hid (show ∀ wx, Below wr.heap.size wr wx → wx.cell? ⟨gr, m, none⟩ = some (.int .i64 ((vnum rows.length (T (k + 1)) m)[m]?.getD 0)) from fun wx hb => (hb.cell (cell_lt s1)).trans s1)
            have HY := hid (show ∀ wx, Below wr.heap.size wr wx → wx.frozen? ⟨gr, m, none⟩ = false from fun wx hb => (hb.frozen (p := ⟨gr, m, none⟩) hgrl).trans s2)
            have HSt := hid (show ∀ wx, Below wr.heap.size wr wx → IBox (wx.setCell ⟨gr, m, none⟩ (.int .i64 (T (k + 1) m))) gr (vnum rows.length (T (k + 1)) (m + 1)) from fun wx hb => by
              rw [← HVs.out]; exact (HIb.out.below hb).set m _)
            have HBs := hid (show ∀ wx, Below wr.heap.size wr wx → Below gr W5 (wx.setCell ⟨gr, m, none⟩ (.int .i64 (T (k + 1) m))) from fun wx hb => (HBr.out.trans (hb.mono (Nat.le_of_lt hgrl))).setCell (p := ⟨gr, m, none⟩) (Nat.le_refl _) _)
            have HCs := hid (show ∀ wx, Below wr.heap.size wr wx → (wx.setCell ⟨gr, m, none⟩ (.int .i64 (T (k + 1) m))).cell? ⟨w.heap.size, 0, none⟩ = some (.int .i64 (L : Int)) ∧ (wx.setCell ⟨gr, m, none⟩ (.int .i64 (T (k + 1) m))).cell? ⟨w.heap.size, 1, none⟩ = some (.slice Na rows.length nc) ∧ (wx.setCell ⟨gr, m, none⟩ (.int .i64 (T (k + 1) m))).cell? ⟨w.heap.size, 2, none⟩ = some (.slice Aa rows.length ac) from fun wx hb => by
              rw [World.cell?_setCell_other _ _ _ _ (by simp only [ne_eq, Addr.mk.injEq]; omega), World.cell?_setCell_other _ _ _ _ (by simp only [ne_eq, Addr.mk.injEq]; omega), World.cell?_setCell_other _ _ _ _ (by simp only [ne_eq, Addr.mk.injEq]; omega)]
              exact ⟨(hb.cell (cell_lt e0)).trans e0, (hb.cell (cell_lt e1)).trans e1, (hb.cell (cell_lt e2)).trans e2⟩)
            have HDs := hid (show ∀ wx, Below wr.heap.size wr wx → (wx.setCell ⟨gr, m, none⟩ (.int .i64 (T (k + 1) m))).cell? ⟨w.heap.size + 1, k + 1, none⟩ = some (.slice (some ⟨gr, 0, none⟩) rows.length rows.length) from fun wx hb => by
              rw [World.cell?_setCell_other _ _ _ _ (by simp only [ne_eq, Addr.mk.injEq]; omega)]; exact (hb.cell (cell_lt e3)).trans e3)
            clear g5 g4
            clear e0 e1 e2 e3 hg4 s1 s2
            go_wp2_with fail
            refine wp_region_held_drew (S := (fun w' => w'.cell? ⟨w.heap.size + 1, k + 1, none⟩ = some (.slice (some ⟨gr, 0, none⟩) rows.length rows.length) ∧ w'.cell? ⟨w.heap.size + 1, k, none⟩ = some (.slice (some ⟨G k, 0, none⟩) rows.length rows.length))) (by kernel_rfl) (HKp.out _ hr1.drew) (fun hHeld => ?_)
            refine take_d (i := 0) (d := some 45) (v := ?_) rfl rfl (by kernel_rfl) (by kernel_rfl) (by kernel_rfl) (fun _ _ _ h => h) (Or.inl ⟨by first | rfl | (simp [*, Region.wanted, yielded]), ?hyn1⟩) (by assumption) ?restn1
            case hyn1 => (intro w hSw; (try dsimp only at hSw); go_simp <;> with_reducible rfl)
            try simp only [Act.put, List.setIfInBounds_toArray, List.set_cons_zero, List.set_cons_succ]
            refine take_d (i := 1) (d := some 46) (v := ?_) rfl rfl (by kernel_rfl) (by kernel_rfl) (by kernel_rfl) (fun _ _ _ h => h) (Or.inl ⟨by first | rfl | (simp [*, Region.wanted, yielded]), ?hyn2⟩) (by assumption) ?restn2
            case hyn2 => (intro w hSw; (try dsimp only at hSw); go_simp <;> with_reducible rfl)
            try simp only [Act.put, List.setIfInBounds_toArray, List.set_cons_zero, List.set_cons_succ]
            refine take_d (i := 2) (d := some 47) (v := ?_) rfl rfl (by kernel_rfl) (by kernel_rfl) (by kernel_rfl) (fun _ _ _ h => h) (Or.inl ⟨by first | rfl | (simp [*, Region.wanted, yielded]), ?hyn3⟩) (by assumption) ?restn3
            case hyn3 => (intro w hSw; (try dsimp only at hSw); go_simp <;> with_reducible rfl)
            try simp only [Act.put, List.setIfInBounds_toArray, List.set_cons_zero, List.set_cons_succ]
            refine take_d (i := 3) (d := some 48) (v := ?_) rfl rfl (by kernel_rfl) (by kernel_rfl) (by kernel_rfl) (fun _ _ _ h => h) (Or.inl ⟨by first | rfl | (simp [*, Region.wanted, yielded]), ?hyn4⟩) (by assumption) ?restn4
            case hyn4 => (intro w hSw; (try dsimp only at hSw); go_simp <;> with_reducible rfl)
            try simp only [Act.put, List.setIfInBounds_toArray, List.set_cons_zero, List.set_cons_succ]
            refine take_d (i := 4) (d := some 49) (v := ?_) rfl rfl (by kernel_rfl) (by kernel_rfl) (by kernel_rfl) (fun _ _ _ h => h) (Or.inl ⟨by first | rfl | (simp [*, Region.wanted, yielded]), ?hyn5⟩) (by assumption) ?restn5
            case hyn5 => (intro w hSw; (try dsimp only at hSw); go_simp <;> with_reducible rfl)
            try simp only [Act.put, List.setIfInBounds_toArray, List.set_cons_zero, List.set_cons_succ]
            refine take_d (i := 5) (d := some 50) (v := ?_) rfl rfl (by kernel_rfl) (by kernel_rfl) (by kernel_rfl) (fun _ _ _ h => h) (Or.inl ⟨by first | rfl | (simp [*, Region.wanted, yielded]), ?hyn6⟩) (by assumption) ?restn6
            case hyn6 => (intro w hSw; (try dsimp only at hSw); go_simp <;> with_reducible rfl)
            try simp only [Act.put, List.setIfInBounds_toArray, List.set_cons_zero, List.set_cons_succ]
            refine take_d (i := 6) (d := some 51) (v := ?_) rfl rfl (by kernel_rfl) (by kernel_rfl) (by kernel_rfl) (fun _ _ _ h => h) (Or.inl ⟨by first | rfl | (simp [*, Region.wanted, yielded]), ?hyn7⟩) (by assumption) ?restn7
            case hyn7 => (intro w hSw; (try dsimp only at hSw); go_simp <;> with_reducible rfl)
            try simp only [Act.put, List.setIfInBounds_toArray, List.set_cons_zero, List.set_cons_succ]
            refine take_d (i := 7) (d := some 52) (v := ?_) rfl rfl (by kernel_rfl) (by kernel_rfl) (by kernel_rfl) (fun _ _ _ h => h) (Or.inl ⟨by first | rfl | (simp [*, Region.wanted, yielded]), ?hyn8⟩) (by assumption) ?restn8
            case hyn8 => (intro w hSw; (try dsimp only at hSw); go_simp <;> with_reducible rfl)
            try simp only [Act.put, List.setIfInBounds_toArray, List.set_cons_zero, List.set_cons_succ]
            refine take_d (i := 8) (d := some 53) (v := ?_) rfl rfl (by kernel_rfl) (by kernel_rfl) (by kernel_rfl) (fun _ _ _ h => h) (Or.inl ⟨by first | rfl | (simp [*, Region.wanted, yielded]), ?hyn9⟩) (by assumption) ?restn9
            case hyn9 => (intro w hSw; (try dsimp only at hSw); go_simp <;> with_reducible rfl)
            try simp only [Act.put, List.setIfInBounds_toArray, List.set_cons_zero, List.set_cons_succ]
            refine take_d (i := 9) (d := some 54) (v := ?_) rfl rfl (by kernel_rfl) (by kernel_rfl) (by kernel_rfl) (fun _ _ _ h => h) (Or.inl ⟨by first | rfl | (simp [*, Region.wanted, yielded]), ?hyn10⟩) (by assumption) ?restn10
            case hyn10 => (intro w hSw; (try dsimp only at hSw); go_simp <;> with_reducible rfl)
            try simp only [Act.put, List.setIfInBounds_toArray, List.set_cons_zero, List.set_cons_succ]
            refine take_d (i := 10) (d := some 55) (v := ?_) rfl rfl (by kernel_rfl) (by kernel_rfl) (by kernel_rfl) (fun _ _ _ h => h) (Or.inl ⟨by first | rfl | (simp [*, Region.wanted, yielded]), ?hyn11⟩) (by assumption) ?restn11
            case hyn11 => (intro w hSw; (try dsimp only at hSw); go_simp <;> with_reducible rfl)
            try simp only [Act.put, List.setIfInBounds_toArray, List.set_cons_zero, List.set_cons_succ]
            refine take_d (i := 11) (d := some 56) (v := ?_) rfl rfl (by kernel_rfl) (by kernel_rfl) (by kernel_rfl) (fun _ _ _ h => h) (Or.inl ⟨by first | rfl | (simp [*, Region.wanted, yielded]), ?hyn12⟩) (by assumption) ?restn12
            case hyn12 => (intro w hSw; (try dsimp only at hSw); go_simp <;> with_reducible rfl)
            try simp only [Act.put, List.setIfInBounds_toArray, List.set_cons_zero, List.set_cons_succ]
            refine wpAnyH_ready (rs := [12]) (by kernel_rfl) (by simp) ?_
            refine AllReadyH.cons (o := _) rfl (fun K hK => ?_) AllReadyH.nil
            go_simp
            refine (HNx.out _ ?_).mono ?_
            · repeat (first | exact hr1 | apply Below.drew | (refine Below.alloc ?_ (by first | exact Below.size (by assumption) | omega | (simp; done) | (simp; omega)) _))
            rintro e7 w7 ⟨hb7, rfl⟩
            have p7 : Below wr.heap.size wr w7 := Below.trans (by repeat (first | exact hr1 | apply Below.drew | (refine Below.alloc ?_ (by first | exact Below.size (by assumption) | omega | (simp; done) | (simp; omega)) _))) (hb7.mono (by first | (simp; done) | (simp; omega)))
            have x7 := HX.out w7 p7
            have y7 := HY.out w7 p7
            go_wp2_with fail
            refine hK.out _ _ (HKp.out _ p7) (fun hHeld => ?_)
            clear hK K
            try simp only [Act.put, List.setIfInBounds_toArray, List.set_cons_zero, List.set_cons_succ]
            refine take_d (i := 13) (d := some 58) (v := ?_) rfl rfl (by kernel_rfl) (by kernel_rfl) (by kernel_rfl) (fun _ _ _ h => h) (Or.inl ⟨by first | rfl | (simp [*, Region.wanted, yielded]), ?hyn13⟩) (by assumption) ?restn13
            case hyn13 => (intro w hSw; (try dsimp only at hSw); go_simp <;> with_reducible rfl)
            try simp only [Act.put, List.setIfInBounds_toArray, List.set_cons_zero, List.set_cons_succ]
            refine wpAnyH_ready (rs := [14]) (by kernel_rfl) (by simp) ?_
            refine AllReadyH.cons (o := _) rfl (fun K hK => ?_) AllReadyH.nil
            go_simp
            go_wp2_with fail
            refine hK.out _ _ (HKs.out _ _ p7) (fun hHeld => ?_)
            clear hK K
            try simp only [Act.put, List.setIfInBounds_toArray, List.set_cons_zero, List.set_cons_succ]
            refine wpAnyH_done (by kernel_rfl) ?_ _
            go_simp
            have HZ := hid (HSt.out w7 p7)
            have HZb := hid (HBs.out w7 p7)
            have HZc := hid (HCs.out w7 p7)
            have HZd := hid (HDs.out w7 p7)
            clear x7 y7 hHeld
            go_wp2
            go_roundg g2'
            case rel => exact ⟨m + 1, by omega, by go_num, HZ.out, HZb.out, HZc.out.1, HZc.out.2.1, HZc.out.2.2, HZd.out⟩
            all_goals omega
          · obtain rfl : m = rows.length := by omega
            have hfull : vnum rows.length (T (k + 1)) rows.length = (List.range rows.length).map (T (k + 1)) := by
              unfold vnum; exact rowPad_full _ _ (by simp)
            have HI9 := HIb.out
            rw [hfull] at HI9
            have HT9 := hid (HSp.out wr HBr.out HI9)
            have HB9 := hid (HBw5.out.trans (HBr.out.mono (show w.heap.size ≤ gr by omega)))
            clear hfull HI9
            go_wp2
            go_roundg go'
            case rel => exact ⟨k + 1 + 1, _, by omega, by go_num, HT9.out, HB9.out, e0, e1, e2⟩
            all_goals omega

    · have hke : k = n + 1 := by omega
      have HT9 := hid (show TabW wo w.heap.size (w.heap.size + 1) (n + 1) rows.length T G (n + 1) by have h9 := HTb.out.weak (b := w.heap.size) (Nat.le_succ _); rw [hke] at h9; exact h9)
      have hkf : ¬ (k : Int) < (n : Int) + 1 := by omega
      clear hke
      go_wp2
      go_ret
      exact ⟨HB.out, _, rfl, G, HT9.out⟩
end Go.Proofs.Ytkboeldafppicaa
