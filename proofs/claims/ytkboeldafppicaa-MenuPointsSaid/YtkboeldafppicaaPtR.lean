/- CountPoints of the document. -/
import Derived.Test.YtkboeldafppicaaPtP
set_option linter.unusedVariables false
set_option linter.unusedSimpArgs false
namespace Go.Proofs.Ytkboeldafppicaa
open Go.RowKit

set_option maxRecDepth 100000 in
set_option maxHeartbeats 16000000 in
theorem rCountPoints_any (L : Int) (nc ac : Nat) (Na Aa : Option Addr) (rows : List (List Int)) (accs : List Bool) (n : Int) (A : Option Addr) (ps : List Int) (cap : Nat) (total : Int) (w : World) (h : MachAt w Na rows Aa accs) (hp : Ints w A ps) :
    Calls Try.prog 57 #[machV L Na rows.length nc Aa accs.length ac, .int .i64 n, .slice A ps.length cap, .int .i64 total] w fun e w' => Below w.heap.size w w' ∧ e = .returned (.tuple #[.int .i64 (cpA L rows accs n ps total), .int .i64 (ptE L rows accs n ps)]) := by
  have hA : Below w.heap.size w (w.alloc (.cells #[.int .i64 L, .slice Na rows.length nc, .slice Aa accs.length ac] 25)) := (Below.refl _ _).alloc (Nat.le_refl _) _
  have HM := hid (h.below hA)
  have HP := hid (hp.below hA)
  have HA := hid hA
  have HCk := hid (rScored_any L nc ac Na Aa rows accs n A ps cap _ HM.out HP.out)
  have c0 : (w.alloc (.cells #[.int .i64 L, .slice Na rows.length nc, .slice Aa accs.length ac] 25)).cell? ⟨w.heap.size, 0, none⟩ = some (.int .i64 L) := by go_simp
  have c1 : (w.alloc (.cells #[.int .i64 L, .slice Na rows.length nc, .slice Aa accs.length ac] 25)).cell? ⟨w.heap.size, 1, none⟩ = some (.slice Na rows.length nc) := by go_simp
  have c2 : (w.alloc (.cells #[.int .i64 L, .slice Na rows.length nc, .slice Aa accs.length ac] 25)).cell? ⟨w.heap.size, 2, none⟩ = some (.slice Aa accs.length ac) := by go_simp
  obtain ⟨X, hX⟩ : ∃ X, X = cpA L rows accs n ps total := ⟨_, rfl⟩
  rw [← hX]
  have HX := hid hX
  obtain ⟨V, hV⟩ : ∃ V, V = ptE L rows accs n ps := ⟨_, rfl⟩
  rw [← hV] at HCk ⊢
  have HV := hid hV
  clear hX hV h hp hA
  unfold machV at HCk ⊢
  go_enter Try.func57, Try.ntmps57
  go_upto_region 1 with (fail)
  generalize w.alloc (.cells #[.int .i64 L, .slice Na rows.length nc, .slice Aa accs.length ac] 25) = w0 at *
  go_wp2_with fail
  refine HCk.out.mono ?_
  rintro e w1 ⟨hb1, rfl⟩
  have HB1 := hid (HA.out.trans (hb1.mono HA.out.size))
  have HM1 := hid (HM.out.below hb1)
  have HP1 := hid (HP.out.below hb1)
  have c0 := (hb1.cell (cell_lt c0)).trans c0
  have c1 := (hb1.cell (cell_lt c1)).trans c1
  have c2 := (hb1.cell (cell_lt c2)).trans c2
  clear hb1 HCk HM HP HA
  by_cases hv0 : V = 0
  · subst hv0
    have hv := HV.out.symm
    obtain ⟨hle, hpl, hpa⟩ := ptE_ok hv
    obtain ⟨hvE, ⟨m, rfl, hm20⟩, ⟨l, rfl⟩⟩ := lenE_ok hle
    obtain ⟨hg, h64⟩ := vE_ok hvE
    have hal := hg.acc
    rw [hal] at c2
    have HX2 := hid (show X = if 0 ≤ total ∧ total ≤ 20 * (m : Int) then cpP l rows.length (mN rows) (ptp ps) (mA accs) m total.toNat else 0 from by
      rw [HX.out]
      unfold cpA
      by_cases e : 0 ≤ total ∧ total ≤ 20 * (m : Int)
      · rw [if_pos ⟨hv, e⟩, if_pos e, Int.toNat_natCast, Int.toNat_natCast]
      · rw [if_neg (fun hh => e hh.2), if_neg e])
    have HIb := hid (fun wx => rWithin_any total 0 ((m : Int) * 20) wx)
    have HG := hid hg
    have hmm : (m : Int) * 20 ≤ 400 := by omega
    have hmm0 : 0 ≤ (m : Int) * 20 := by omega
    have hplN : ps.length = l := by omega
    have HPL := hid hplN
    have HPA := hid hpa
    obtain ⟨top, htop⟩ : ∃ top : Nat, (m : Int) * 20 = (top : Int) := ⟨m * 20, by omega⟩
    have htop2 : top ≤ 400 := by omega
    rw [htop] at HIb
    have hlp := HP1.out.len
    clear hv hle hvE hpl hpa HX hal hplN
    by_cases ht : 0 ≤ total ∧ total ≤ (top : Int)
    · have hd : decide (0 ≤ total ∧ total ≤ (top : Int)) = true := decide_eq_true ht
      rw [hd] at HIb
      have HX3 := hid (HX2.out.trans (if_pos (by omega)))
      obtain ⟨t, rfl⟩ : ∃ t : Nat, total = t := ⟨total.toNat, by omega⟩
      have ht4 : t ≤ top := by omega
      have hpos := hg.pos
      have hP20 : ∀ c, c < l → ptp ps c ≤ 20 := fun c hc => ptp_le HPA.out c (by have := HPL.out; omega)
      have HFb := hid (fun k i q (hk : k ≤ 20) (hi : i < rows.length) => show 0 ≤ fwP l rows.length (mN rows) (ptp ps) k i q ∧ fwP l rows.length (mN rows) (ptp ps) k i q ≤ 3656158440062976 from ⟨fwP_nn k i q, Int.le_trans (fwP_bd hP20 hpos (fun s c hs hc => (hg.ent s c hs hc).1) k i q hi) (powL hg.hi hk)⟩)
      have HCb := hid (fun j (hj : j ≤ rows.length) => show 0 ≤ sumN (fun s => if mA accs s = true then fwP l rows.length (mN rows) (ptp ps) m s t else 0) j ∧ sumN (fun s => if mA accs s = true then fwP l rows.length (mN rows) (ptp ps) m s t else 0) j ≤ 3656158440062976 from by
        have := cpP_bd hP20 hpos (fun s c hs hc => (hg.ent s c hs hc).1) (mA accs) m t j hj
        exact ⟨this.1, Int.le_trans this.2 (powL hg.hi hm20)⟩)
      have hl6 := hg.hi
      clear hd ht hP20
      have HD1 := hid (And.intro c0 (And.intro c1 c2))
      have hmk := make_intsM (top + 1) (by omega)
      have ecast : ((top + 1 : Nat) : Int) = (top : Int) + 1 := by omega
      rw [ecast] at hmk
      have hmr := make_rowsM rows.length (by omega)
      have HMk := hid hmk
      have HMr := hid hmr
      have HTop := hid htop
      clear ecast
      go_wp2_with fail
      refine (HIb.out _).mono ?_
      rintro e w2 ⟨rfl, rfl⟩
      clear HIb
      have HTb := hid (show TabW (w2.alloc (.cells (List.replicate rows.length (Value.slice none 0 0)).toArray 26)) w2.heap.size w2.heap.size rows.length (top + 1) (fun _ _ => 0) (fun _ => 0) 0 from ⟨⟨List.replicate rows.length (Value.slice none 0 0), by simp, CBox.made w2 26 rows.length (Value.slice none 0 0), fun i hi => by omega⟩, fun i hi => by omega, fun i hi => by omega, Nat.le_refl _⟩)
      have HBk := hid (show Below w2.heap.size w2 (w2.alloc (.cells (List.replicate rows.length (Value.slice none 0 0)).toArray 26)) from (Below.refl _ _).alloc (Nat.le_refl _) _)
      go_wp2_with fail
      go_loopw [13] (fun i wr => ∃ (j : Nat) (G : Nat → Nat), j ≤ rows.length ∧ i = .int .i64 (j : Int) ∧ Hid (TabW wr w2.heap.size w2.heap.size rows.length (top + 1) (fun _ _ => 0) G j) ∧ Hid (∀ i i', i < j → i' < j → G i = G i' → i = i') ∧ Hid (Below w2.heap.size w2 wr)) (fun i _ => rows.length - (intOf i).toNat)
      case atStart => exact ⟨0, fun _ => 0, Nat.zero_le _, rfl, HTb.out, (fun i j hi => by omega), HBk.out⟩
      case round =>
        clear HTb HBk c0 c1 c2
        obtain ⟨j, GZ, hj, rfl, HTb, HJ, HBk⟩ := hrel
        by_cases hjl : j < rows.length
        · have hj1 : (j : Int) < (rows.length : Int) := by omega
          have hj0 : (0 : Int) ≤ (j : Int) := by omega
          have hsz := HTb.out.out.elim (fun vals hh => hh.2.1.lt)
          obtain ⟨v0, r1⟩ : ∃ v0, wr.cell? ⟨w2.heap.size, j, none⟩ = some v0 := by
            obtain ⟨vals, e1, e2, _⟩ := HTb.out.out
            exact ⟨_, e2.cell j _ (List.getElem?_eq_getElem (by omega))⟩
          have r2 : wr.frozen? ⟨w2.heap.size, j, none⟩ = false := by
            obtain ⟨vals, e1, e2, _⟩ := HTb.out.out
            exact e2.frozen j
          obtain ⟨W5, hW5⟩ : ∃ W5, W5 = (wr.alloc (.cells (List.replicate (top + 1) (Value.int .i64 0)).toArray 3)).setCell ⟨w2.heap.size, j, none⟩ (.slice (some ⟨wr.heap.size, 0, none⟩) (top + 1) (top + 1)) := ⟨_, rfl⟩
          have hW5' : (wr.setCell ⟨w2.heap.size, j, none⟩ (.slice (some ⟨wr.heap.size, 0, none⟩) (top + 1) (top + 1))).alloc (.cells (List.replicate (top + 1) (Value.int .i64 0)).toArray 3) = W5 := by
            rw [hW5, World.setCell_alloc_past _ _ _ _ hsz]
          have HI5 := hid (show IBox W5 wr.heap.size ((List.range (top + 1)).map (fun _ => (0 : Int))) by
            rw [hW5]
            have := (IBox.made wr (top + 1)).other ⟨w2.heap.size, j, none⟩ (.slice (some ⟨wr.heap.size, 0, none⟩) (top + 1) (top + 1)) (by dsimp only; omega)
            rw [show (List.range (top + 1)).map (fun _ => (0 : Int)) = List.replicate (top + 1) 0 from by rw [List.map_const', List.length_range]]
            exact this)
          have HT5 := hid (HTb.out.step hjl (by omega) (.cells (List.replicate (top + 1) (Value.int .i64 0)).toArray 3) (wz := W5) (by rw [← hW5]; exact Below.refl _ _) HI5.out)
          have HJ5 := hid (show ∀ i i', i < j + 1 → i' < j + 1 → (if i = j then wr.heap.size else GZ i) = (if i' = j then wr.heap.size else GZ i') → i = i' from fun i i' hi hi' he => by
            by_cases e1 : i = j
            · by_cases e2 : i' = j
              · omega
              · rw [if_pos e1, if_neg e2] at he
                have := (HTb.out.rows i' (by omega)).lt
                omega
            · by_cases e2 : i' = j
              · rw [if_neg e1, if_pos e2] at he
                have := (HTb.out.rows i (by omega)).lt
                omega
              · rw [if_neg e1, if_neg e2] at he
                exact HJ.out i i' (by omega) (by omega) he)
          have HB5 := hid (show Below w2.heap.size w2 W5 by
            rw [hW5]; exact (HBk.out.alloc HBk.out.size _).setCell (p := ⟨w2.heap.size, j, none⟩) (by simp) _)
          rw [List.toArray_replicate] at hW5'
          clear hW5 HI5
          go_wp2
          go_roundw
          case rel => first | exact ⟨j + 1, _, by omega, by go_num, HT5.out, HJ5.out, HB5.out⟩ | (repeat apply Exists.intro; refine ⟨?_, rfl⟩; exact ⟨j + 1, _, by omega, by go_num, HT5.out, HJ5.out, HB5.out⟩)
          case measure => simp [intOf]; omega
        · have hj1 : ¬ (j : Int) < (rows.length : Int) := by omega
          have hje : j = rows.length := by omega
          subst hje
          have HZ := hid (show TabZ wr w2.heap.size w2.heap.size rows.length (top + 1) (fun _ _ => 0) GZ from ⟨HTb.out, HJ.out⟩)
          have HB := hid HBk.out
          clear HTb HJ HBk
          have y0 := HZ.out.tab.cell 0 hpos
          have y1 := HZ.out.tab.get 0 0 hpos (by omega)
          have y1f := (HZ.out.tab.rows 0 hpos).frozen 0
          have hp1 : (0 : Int) < (rows.length : Int) := by omega
          have HZ5 := hid ((HZ.out.store 0 0 hpos (by omega) 1).congr (F' := fwP l rows.length (mN rows) (ptp ps) 0) (fun i q _ _ => rfl))
          have HB5 := hid (HB.out.setCell (p := ⟨GZ 0, 0, none⟩) ((HZ.out.tab.ne 0 hpos).1) (.int .i64 1))
          have ht0 : (0 : Int) < (top : Int) + 1 := by omega
          clear HZ HB
          go_wp2_with fail
          clear y0 y1 y1f
          go_loopw [12, 14, 15, 16, 17, 18, 19] (fun v i _ _ _ _ _ wr => ∃ (k g : Nat) (G : Nat → Nat), k ≤ m ∧ i = .int .i64 (k : Int) ∧ v = .slice (some ⟨g, 0, none⟩) rows.length rows.length ∧ Hid (TabZ wr w2.heap.size g rows.length (top + 1) (fwP l rows.length (mN rows) (ptp ps) k) G) ∧ Hid (Below w2.heap.size w2 wr)) (fun _ i _ _ _ _ _ _ => m - (intOf i).toNat)
          case atStart => exact ⟨0, w2.heap.size, GZ, Nat.zero_le _, rfl, rfl, HZ5.out, HB5.out⟩
          case round =>
            clear HZ5 HB5
            obtain ⟨k, g, G, hk, rfl, rfl, HZn, HBk⟩ := hrel
            have HBw := hid HBk.out
            have d0 := (HBw.out.cell (cell_lt HD1.out.1)).trans HD1.out.1
            have d1 := (HBw.out.cell (cell_lt HD1.out.2.1)).trans HD1.out.2.1
            have d2 := (HBw.out.cell (cell_lt HD1.out.2.2)).trans HD1.out.2.2
            by_cases hkl : k < m
            · have hkl1 : (k : Int) < (m : Int) := by omega
              have hmk := HMk.out
              have hmr := HMr.out
              obtain ⟨wk, hwk⟩ : ∃ x, x = wr := ⟨_, rfl⟩
              subst hwk
              have HTb := hid (show TabW (wk.alloc (.cells (List.replicate rows.length (Value.slice none 0 0)).toArray 26)) wk.heap.size wk.heap.size rows.length (top + 1) (fun _ _ => 0) (fun _ => 0) 0 from ⟨⟨List.replicate rows.length (Value.slice none 0 0), by simp, CBox.made wk 26 rows.length (Value.slice none 0 0), fun i hi => by omega⟩, fun i hi => by omega, fun i hi => by omega, Nat.le_refl _⟩)
              have HBk := hid (show Below wk.heap.size wk (wk.alloc (.cells (List.replicate rows.length (Value.slice none 0 0)).toArray 26)) from (Below.refl _ _).alloc (Nat.le_refl _) _)
              go_wp2_with fail
              go_loopw [16] (fun i wr => ∃ (j : Nat) (G : Nat → Nat), j ≤ rows.length ∧ i = .int .i64 (j : Int) ∧ Hid (TabW wr wk.heap.size wk.heap.size rows.length (top + 1) (fun _ _ => 0) G j) ∧ Hid (∀ i i', i < j → i' < j → G i = G i' → i = i') ∧ Hid (Below wk.heap.size wk wr)) (fun i _ => rows.length - (intOf i).toNat)
              case atStart => exact ⟨0, fun _ => 0, Nat.zero_le _, rfl, HTb.out, (fun i j hi => by omega), HBk.out⟩
              case round =>
                clear HTb HBk d0 d1 d2 HBw
                obtain ⟨j, GZ, hj, rfl, HTb, HJ, HBk⟩ := hrel
                by_cases hjl : j < rows.length
                · have hj1 : (j : Int) < (rows.length : Int) := by omega
                  have hj0 : (0 : Int) ≤ (j : Int) := by omega
                  have hsz := HTb.out.out.elim (fun vals hh => hh.2.1.lt)
                  obtain ⟨v0, r1⟩ : ∃ v0, wr.cell? ⟨wk.heap.size, j, none⟩ = some v0 := by
                    obtain ⟨vals, e1, e2, _⟩ := HTb.out.out
                    exact ⟨_, e2.cell j _ (List.getElem?_eq_getElem (by omega))⟩
                  have r2 : wr.frozen? ⟨wk.heap.size, j, none⟩ = false := by
                    obtain ⟨vals, e1, e2, _⟩ := HTb.out.out
                    exact e2.frozen j
                  obtain ⟨W5, hW5⟩ : ∃ W5, W5 = (wr.alloc (.cells (List.replicate (top + 1) (Value.int .i64 0)).toArray 3)).setCell ⟨wk.heap.size, j, none⟩ (.slice (some ⟨wr.heap.size, 0, none⟩) (top + 1) (top + 1)) := ⟨_, rfl⟩
                  have hW5' : (wr.setCell ⟨wk.heap.size, j, none⟩ (.slice (some ⟨wr.heap.size, 0, none⟩) (top + 1) (top + 1))).alloc (.cells (List.replicate (top + 1) (Value.int .i64 0)).toArray 3) = W5 := by
                    rw [hW5, World.setCell_alloc_past _ _ _ _ hsz]
                  have HI5 := hid (show IBox W5 wr.heap.size ((List.range (top + 1)).map (fun _ => (0 : Int))) by
                    rw [hW5]
                    have := (IBox.made wr (top + 1)).other ⟨wk.heap.size, j, none⟩ (.slice (some ⟨wr.heap.size, 0, none⟩) (top + 1) (top + 1)) (by dsimp only; omega)
                    rw [show (List.range (top + 1)).map (fun _ => (0 : Int)) = List.replicate (top + 1) 0 from by rw [List.map_const', List.length_range]]
                    exact this)
                  have HT5 := hid (HTb.out.step hjl (by omega) (.cells (List.replicate (top + 1) (Value.int .i64 0)).toArray 3) (wz := W5) (by rw [← hW5]; exact Below.refl _ _) HI5.out)
                  have HJ5 := hid (show ∀ i i', i < j + 1 → i' < j + 1 → (if i = j then wr.heap.size else GZ i) = (if i' = j then wr.heap.size else GZ i') → i = i' from fun i i' hi hi' he => by
                    by_cases e1 : i = j
                    · by_cases e2 : i' = j
                      · omega
                      · rw [if_pos e1, if_neg e2] at he
                        have := (HTb.out.rows i' (by omega)).lt
                        omega
                    · by_cases e2 : i' = j
                      · rw [if_neg e1, if_pos e2] at he
                        have := (HTb.out.rows i (by omega)).lt
                        omega
                      · rw [if_neg e1, if_neg e2] at he
                        exact HJ.out i i' (by omega) (by omega) he)
                  have HB5 := hid (show Below wk.heap.size wk W5 by
                    rw [hW5]; exact (HBk.out.alloc HBk.out.size _).setCell (p := ⟨wk.heap.size, j, none⟩) (by simp) _)
                  rw [List.toArray_replicate] at hW5'
                  clear hW5 HI5
                  go_wp2
                  go_roundw
                  case rel => first | exact ⟨j + 1, _, by omega, by go_num, HT5.out, HJ5.out, HB5.out⟩ | (repeat apply Exists.intro; refine ⟨?_, rfl⟩; exact ⟨j + 1, _, by omega, by go_num, HT5.out, HJ5.out, HB5.out⟩)
                  case measure => simp [intOf]; omega
                · have hj1 : ¬ (j : Int) < (rows.length : Int) := by omega
                  have hje : j = rows.length := by omega
                  subst hje
                  have HZ := hid (show TabZ wr wk.heap.size wk.heap.size rows.length (top + 1) (fun _ _ => 0) GZ from ⟨HTb.out, HJ.out⟩)
                  have HB := hid HBk.out
                  clear HTb HJ HBk
                  have hvl := HTop.out
                  clear hmk hmr
                  have HZ5 := hid (HZ.out.congr (F' := lgR l (mN rows) (ptp ps) (fwP l rows.length (mN rows) (ptp ps) k) 0 0) (fun i q _ _ => (lgR_zero i q).symm))
                  have HB5 := hid HB.out
                  clear HZ HB
                  go_wp2_with fail
                  go_loopw [17, 18, 19] (fun i _ _ wr => ∃ (s : Nat), s ≤ rows.length ∧ i = .int .i64 (s : Int) ∧ Hid (TabZ wr wk.heap.size wk.heap.size rows.length (top + 1) (lgR l (mN rows) (ptp ps) (fwP l rows.length (mN rows) (ptp ps) k) s 0) GZ) ∧ Hid (Below wk.heap.size wk wr)) (fun i _ _ _ => rows.length - (intOf i).toNat)
                  case atStart => exact ⟨0, Nat.zero_le _, rfl, HZ5.out, HB5.out⟩
                  case round =>
                    clear HZ5 HB5
                    obtain ⟨s, hs, rfl, HZ, HB⟩ := hrel
                    by_cases hsl : s < rows.length
                    · have hs1 : (s : Int) < (rows.length : Int) := by omega
                      have hs0 : (0 : Int) ≤ (s : Int) := by omega
                      go_wp2_with fail
                      go_loopw [18, 19] (fun i _ wr => ∃ (c : Nat), c ≤ l ∧ i = .int .i64 (c : Int) ∧ Hid (TabZ wr wk.heap.size wk.heap.size rows.length (top + 1) (lgR l (mN rows) (ptp ps) (fwP l rows.length (mN rows) (ptp ps) k) s c) GZ) ∧ Hid (Below wk.heap.size wk wr)) (fun i _ _ => l - (intOf i).toNat)
                      case atStart => exact ⟨0, Nat.zero_le _, rfl, HZ.out, HB.out⟩
                      case round =>
                        clear HZ HB
                        obtain ⟨c, hc, rfl, HZ, HB⟩ := hrel
                        have HBw := hid (HBk.out.trans (HB.out.mono HBk.out.size))
                        have d0 := (HBw.out.cell (cell_lt HD1.out.1)).trans HD1.out.1
                        by_cases hcL : c < l
                        · have hcl1 : (c : Int) < (l : Int) := by omega
                          have hc0 : (0 : Int) ≤ (c : Int) := by omega
                          have hcp : c < ps.length := by have := HPL.out; omega
                          have hcp1 : (c : Int) < (ps.length : Int) := by omega
                          obtain ⟨he1, he2⟩ := HG.out.ent s c hsl hcL
                          have hrow := HG.out.row s hsl
                          have hpc : ps[c]?.getD 0 = (ptp ps c : Int) := by
                            have := allB_iff.1 HPA.out _ (getD_mem ps c hcp)
                            unfold ptp
                            omega
                          have hp20 := ptp_le HPA.out c hcp
                          obtain ⟨bP, oP, hPa, hPc⟩ : ∃ b o, A = some ⟨b, o, none⟩ ∧ ∀ i, i < ps.length → w2.cell? ⟨b, o + i, none⟩ = some (.int .i64 (ps[i]?.getD 0)) := by
                            rcases HP1.out.at_ with e | hh
                            · rw [e] at hcp; simp at hcp
                            · exact hh
                          have hPv := hPc c hcp
                          rw [hpc] at hPv
                          obtain ⟨bN, oN, gB, o3, kk, hNa, g3, g4, _⟩ := HM1.out.row s c hsl (by rw [hrow]; exact hcL)
                          rw [he2] at g4
                          rw [hrow] at g3
                          have HBd2 := hid (fun q => (lgR_bd (L := l) (next := mN rows) (P := ptp ps) (W := fwP l rows.length (mN rows) (ptp ps) k) (fun s q => fwP_nn k s q) rows.length s (c + 1) (mN rows s c) q hsl (by omega)))
                          have HBd1 := hid (fun q => (lgR_bd (L := l) (next := mN rows) (P := ptp ps) (W := fwP l rows.length (mN rows) (ptp ps) k) (fun s q => fwP_nn k s q) rows.length s c (mN rows s c) q hsl (by omega)))
                          have HW1 := hid (fun q => (HFb.out (k + 1) (mN rows s c) q (by omega) he1).2)
                          have HEnd := hid (fun i q => lgR_succ (L := l) (next := mN rows) (P := ptp ps) (W := fwP l rows.length (mN rows) (ptp ps) k) s c i q)
                          have HPm := hid (show ∀ i q, brg (mN rows) (ptp ps) (fwP l rows.length (mN rows) (ptp ps) k) s c i q = if i = mN rows s c ∧ ptp ps c ≤ q then fwP l rows.length (mN rows) (ptp ps) k s (q - ptp ps c) else 0 from fun i q => by
                            unfold brg
                            by_cases e : mN rows s c = i
                            · rw [if_pos e]
                              by_cases e2 : ptp ps c ≤ q
                              · rw [if_pos e2, if_pos ⟨e.symm, e2⟩]
                              · rw [if_neg e2, if_neg (fun hh => e2 hh.2)]
                            · rw [if_neg e, if_neg (fun hh => e hh.1.symm)])
                          have HFS := hid (show ∀ q, fwP l rows.length (mN rows) (ptp ps) (k + 1) (mN rows s c) q = sumN (fun s' => sumN (fun c' => brg (mN rows) (ptp ps) (fwP l rows.length (mN rows) (ptp ps) k) s' c' (mN rows s c) q) l) rows.length from fun q => rfl)
                          have HPv := hid hPv
                          have HGc := hid (And.intro g3 g4)
                          subst hPa
                          subst hNa
                          clear hPc hpc he2 hrow hPv g3 g4 d0
                          generalize hii : mN rows s c = i at *
                          generalize hpp : ptp ps c = p0 at *
                          have HII := hid hii
                          have HPP := hid hpp
                          clear hii hpp
                          have HZm := hid (HZ.out.congr (F' := pmid (lgR l (mN rows) (ptp ps) (fwP l rows.length (mN rows) (ptp ps) k) s c) (fwP l rows.length (mN rows) (ptp ps) k) i s p0 0) (fun i' q' _ _ => by unfold pmid; rw [if_neg (by omega)]; omega))
                          have hi0 : (0 : Int) ≤ (i : Int) := by omega
                          have hi1 : (i : Int) < (rows.length : Int) := by omega
                          have d0 := (HBw.out.cell (cell_lt HD1.out.1)).trans HD1.out.1
                          go_wp2_with fail
                          clear d0
                          go_loopw [19] (fun v wr => ∃ (z : Nat), z ≤ top + 1 ∧ v = .int .i64 (z : Int) ∧ Hid (TabZ wr wk.heap.size wk.heap.size rows.length (top + 1) (pmid (lgR l (mN rows) (ptp ps) (fwP l rows.length (mN rows) (ptp ps) k) s c) (fwP l rows.length (mN rows) (ptp ps) k) i s p0 z) GZ) ∧ Hid (Below wk.heap.size wk wr)) (fun v _ => top + 1 - (intOf v).toNat)
                          case atStart => exact ⟨0, by omega, rfl, HZm.out, HB.out⟩
                          case round =>
                            clear HZm HB HZ HBw
                            obtain ⟨z, hz, rfl, HZ, HB⟩ := hrel
                            have HBw := hid (HBk.out.trans (HB.out.mono HBk.out.size))
                            have v1 := (HBw.out.cell (cell_lt HPv.out)).trans HPv.out
                            obtain ⟨q, hq⟩ : ∃ q : Nat, (z : Int) + (p0 : Int) = (q : Int) := ⟨z + p0, by omega⟩
                            have hqN : q = p0 + z := by omega
                            by_cases hle : q ≤ top
                            · have hle1 : (q : Int) ≤ (top : Int) := by omega
                              have d1 := (HBw.out.cell (cell_lt HD1.out.2.1)).trans HD1.out.2.1
                              have e3 := (HBw.out.cell (cell_lt HGc.out.1)).trans HGc.out.1
                              have e4 := (HBw.out.cell (cell_lt HGc.out.2)).trans HGc.out.2
                              have y1 := HZ.out.tab.cell i he1
                              have r1 := HZ.out.tab.get i q he1 (by omega)
                              have r1f := (HZ.out.tab.rows i he1).frozen q
                              have y2 := (HZn.out.below HB.out).tab.cell s hsl
                              have r2 := (HZn.out.below HB.out).tab.get s z hsl (by omega)
                              have hv0 : pmid (lgR l (mN rows) (ptp ps) (fwP l rows.length (mN rows) (ptp ps) k) s c) (fwP l rows.length (mN rows) (ptp ps) k) i s p0 z i q = lgR l (mN rows) (ptp ps) (fwP l rows.length (mN rows) (ptp ps) k) s c i q := by unfold pmid; rw [if_neg (by omega)]; omega
                              have hv1 := HEnd.out i q
                              rw [HPm.out, if_pos ⟨rfl, by omega⟩, show q - p0 = z by omega] at hv1
                              have hv2 := HBd2.out q
                              have hv5 := HBd1.out q
                              have hv3 := HW1.out q
                              rw [HFS.out q] at hv3
                              have hv4 : 0 ≤ fwP l rows.length (mN rows) (ptp ps) k s z := fwP_nn k s z
                              have HS := hid ((HZ.out.store i q he1 (by omega) (pmid (lgR l (mN rows) (ptp ps) (fwP l rows.length (mN rows) (ptp ps) k) s c) (fwP l rows.length (mN rows) (ptp ps) k) i s p0 z i q + fwP l rows.length (mN rows) (ptp ps) k s z)).congr (F' := pmid (lgR l (mN rows) (ptp ps) (fwP l rows.length (mN rows) (ptp ps) k) s c) (fwP l rows.length (mN rows) (ptp ps) k) i s p0 (z + 1)) (fun i' q' _ _ => pmid_step _ _ i s p0 z q hqN i' q'))
                              have hxy : 0 ≤ pmid (lgR l (mN rows) (ptp ps) (fwP l rows.length (mN rows) (ptp ps) k) s c) (fwP l rows.length (mN rows) (ptp ps) k) i s p0 z i q + fwP l rows.length (mN rows) (ptp ps) k s z ∧ pmid (lgR l (mN rows) (ptp ps) (fwP l rows.length (mN rows) (ptp ps) k) s c) (fwP l rows.length (mN rows) (ptp ps) k) i s p0 z i q + fwP l rows.length (mN rows) (ptp ps) k s z ≤ 3656158440062976 := by omega
                              have hx0 : 0 ≤ pmid (lgR l (mN rows) (ptp ps) (fwP l rows.length (mN rows) (ptp ps) k) s c) (fwP l rows.length (mN rows) (ptp ps) k) i s p0 z i q := by omega
                              have HBs := hid (HB.out.setCell (p := ⟨GZ i, q, none⟩) ((HZ.out.tab.ne i he1).1) (.int .i64 (pmid (lgR l (mN rows) (ptp ps) (fwP l rows.length (mN rows) (ptp ps) k) s c) (fwP l rows.length (mN rows) (ptp ps) k) i s p0 z i q + fwP l rows.length (mN rows) (ptp ps) k s z)))
                              clear hv0 hv1 hv2 hv3 hv5 HZ HB
                              generalize pmid (lgR l (mN rows) (ptp ps) (fwP l rows.length (mN rows) (ptp ps) k) s c) (fwP l rows.length (mN rows) (ptp ps) k) i s p0 z i q = x at *
                              generalize fwP l rows.length (mN rows) (ptp ps) k s z = y at *
                              have hxb : x ≤ 3656158440062976 ∧ y ≤ 3656158440062976 := by omega
                              have hq0 : (0 : Int) ≤ (q : Int) := by omega
                              have hq1 : (q : Int) < (top : Int) + 1 := by omega
                              have hz0 : (0 : Int) ≤ (z : Int) := by omega
                              have hz1 : (z : Int) < (top : Int) + 1 := by omega
                              have HQN := hid hqN
                              clear hqN
                              go_wp2_with fail
                              go_region
                              have HS2 := hid (show TabZ ((wr.setCell ⟨GZ i, q, none⟩ (.int .i64 (x + y))).drew) wk.heap.size wk.heap.size rows.length (top + 1) (pmid (lgR l (mN rows) (ptp ps) (fwP l rows.length (mN rows) (ptp ps) k) s c) (fwP l rows.length (mN rows) (ptp ps) k) i s p0 (z + 1)) GZ from HS.out.below (Below.refl _ _).drew)
                              have HB2 := hid (show Below wk.heap.size wk ((wr.setCell ⟨GZ i, q, none⟩ (.int .i64 (x + y))).drew) from HBs.out.drew)
                              clear HS HBs r1 r1f r2 y1 y2 e3 e4 d1 v1
                              generalize (wr.setCell ⟨GZ i, q, none⟩ (.int .i64 (x + y))).drew = wd at *
                              go_wp2
                              go_roundw
                              case rel => first | exact ⟨z + 1, by omega, by go_num, HS2.out, HB2.out⟩ | (repeat apply Exists.intro; refine ⟨?_, rfl⟩; exact ⟨z + 1, by omega, by go_num, HS2.out, HB2.out⟩)
                              case measure => simp [intOf]; omega
                            · have hle1 : ¬ (q : Int) ≤ (top : Int) := by omega
                              have HZe := hid (HZ.out.congr (F' := lgR l (mN rows) (ptp ps) (fwP l rows.length (mN rows) (ptp ps) k) s (c + 1)) (fun i' q' _ hq' => by
                                rw [HEnd.out, HPm.out]
                                unfold pmid
                                by_cases e : i' = i ∧ p0 ≤ q'
                                · rw [if_pos ⟨e.1, e.2, by omega⟩, if_pos e]
                                · rw [if_neg (fun hh => e ⟨hh.1, hh.2.1⟩), if_neg e]))
                              have HQN := hid hqN
                              clear hqN HZ
                              go_wp2
                              go_roundw
                              case rel => first | exact ⟨c + 1, by omega, by go_num, HZe.out, HB.out⟩ | (repeat apply Exists.intro; refine ⟨?_, rfl⟩; exact ⟨c + 1, by omega, by go_num, HZe.out, HB.out⟩)
                              case measure => simp [intOf]; omega
                        · have hcl1 : ¬ (c : Int) < (l : Int) := by omega
                          have hce : c = l := by omega
                          have HZe := hid (HZ.out.congr (F' := lgR l (mN rows) (ptp ps) (fwP l rows.length (mN rows) (ptp ps) k) (s + 1) 0) (fun i' q' _ _ => by rw [hce, lgR_next]))
                          have HCE := hid hce
                          clear HZ hce
                          go_wp2
                          go_roundw
                          case rel => first | exact ⟨s + 1, by omega, by go_num, HZe.out, HB.out⟩ | (repeat apply Exists.intro; refine ⟨?_, rfl⟩; exact ⟨s + 1, by omega, by go_num, HZe.out, HB.out⟩)
                          case measure => simp [intOf]; omega
                    · have hs1 : ¬ (s : Int) < (rows.length : Int) := by omega
                      have hse : s = rows.length := by omega
                      have HZe := hid (show TabZ wr w2.heap.size wk.heap.size rows.length (top + 1) (fwP l rows.length (mN rows) (ptp ps) (k + 1)) GZ from by
                        have h1 := HZ.out.congr (F' := fwP l rows.length (mN rows) (ptp ps) (k + 1)) (fun i' q' _ _ => by rw [hse, lgR_full]; rfl)
                        exact ⟨h1.tab.weak HBk.out.size, h1.inj⟩)
                      have HBe := hid (HBk.out.trans (HB.out.mono HBk.out.size))
                      have HSE := hid hse
                      clear HZ hse HB
                      go_wp2
                      go_roundw
                      case rel => first | exact ⟨k + 1, wk.heap.size, GZ, by omega, by go_num, rfl, HZe.out, HBe.out⟩ | exact ⟨k + 1, by omega, by go_num, wk.heap.size, rfl, GZ, HZe.out, HBe.out⟩ | (repeat apply Exists.intro; refine ⟨?_, rfl⟩; exact ⟨k + 1, wk.heap.size, GZ, by omega, by go_num, rfl, HZe.out, HBe.out⟩)
                      case measure => simp [intOf]; omega
            · have hkl1 : ¬ (k : Int) < (m : Int) := by omega
              have hkm : k = m := by omega
              subst hkm
              clear d0 d1 d2 HBw
              obtain ⟨wk, hwk⟩ : ∃ x, x = wr := ⟨_, rfl⟩
              subst hwk
              go_wp2_with fail
              go_loopw [20, 21] (fun v i wr => ∃ (j : Nat), j ≤ rows.length ∧ i = .int .i64 (j : Int) ∧ v = .int .i64 (sumN (fun s => if mA accs s = true then fwP l rows.length (mN rows) (ptp ps) k s t else 0) j) ∧ Hid (wr = wk)) (fun _ i _ => rows.length - (intOf i).toNat)
              case atStart => exact ⟨0, Nat.zero_le _, rfl, rfl, rfl⟩
              case round =>
                obtain ⟨j, hj, rfl, rfl, HE⟩ := hrel
                have HBx := hid (show Below w2.heap.size w2 wr from by rw [HE.out]; exact HBk.out)
                have HZx := hid (show TabZ wr w2.heap.size g rows.length (top + 1) (fwP l rows.length (mN rows) (ptp ps) k) G from by rw [HE.out]; exact HZn.out)
                have d2 := (HBx.out.cell (cell_lt HD1.out.2.2)).trans HD1.out.2.2
                by_cases hjl : j < rows.length
                · have hj1 : (j : Int) < (rows.length : Int) := by omega
                  have hj0 : (0 : Int) ≤ (j : Int) := by omega
                  rcases (HM1.out.below HBx.out).aat with e | ⟨bA, oA, hAa, hca⟩
                  · have := HG.out.acc; rw [e] at this; simp at this; omega
                  have a0 := hca j (by rw [HG.out.acc]; exact hjl)
                  rw [show accs[j]?.getD false = mA accs j from rfl] at a0
                  have y0 := HZx.out.tab.cell j hjl
                  have y1 := HZx.out.tab.get j t hjl (by omega)
                  have HSu := hid (show sumN (fun s => if mA accs s = true then fwP l rows.length (mN rows) (ptp ps) k s t else 0) (j + 1) = sumN (fun s => if mA accs s = true then fwP l rows.length (mN rows) (ptp ps) k s t else 0) j + (if mA accs j = true then fwP l rows.length (mN rows) (ptp ps) k j t else 0) from rfl)
                  obtain ⟨q1, q2⟩ := HCb.out j (by omega)
                  obtain ⟨q3, q4⟩ := HFb.out k j t hm20 hjl
                  have ht1 : (t : Int) < (top : Int) + 1 := by omega
                  have htt : (0 : Int) ≤ (t : Int) := by omega
                  subst hAa
                  clear hca
                  generalize sumN (fun s => if mA accs s = true then fwP l rows.length (mN rows) (ptp ps) k s t else 0) j = x at *
                  cases hb : mA accs j with
                  | true =>
                    have HS2 := hid (HSu.out.trans (by rw [if_pos hb]))
                    rw [hb] at a0
                    clear hb HSu
                    generalize fwP l rows.length (mN rows) (ptp ps) k j t = y at *
                    go_wp2
                    go_roundw
                    case rel => exact ⟨j + 1, by omega, by go_num, by rw [HS2.out], HE.out⟩
                    case measure => simp [intOf]; omega
                  | false =>
                    have HS2 := hid (HSu.out.trans (by rw [if_neg (by rw [hb]; simp)]))
                    rw [hb] at a0
                    clear hb HSu y0 y1
                    go_wp2
                    go_roundw
                    case rel => exact ⟨j + 1, by omega, by go_num, by rw [HS2.out, Int.add_zero], HE.out⟩
                    case measure => simp [intOf]; omega
                · have hj1 : ¬ (j : Int) < (rows.length : Int) := by omega
                  have hjn : j = rows.length := by omega
                  have HX4 := hid (show X = sumN (fun s => if mA accs s = true then fwP l rows.length (mN rows) (ptp ps) k s t else 0) j from by
                    rw [HX3.out, hjn, Int.toNat_natCast]; rfl)
                  have HBz := hid (HB1.out.trans (HBx.out.mono HB1.out.size))
                  clear hjn d2 HX3 HX2
                  generalize sumN (fun s => if mA accs s = true then fwP l rows.length (mN rows) (ptp ps) k s t else 0) j = x at *
                  go_wp2
                  refine bodyPost_ret (v := .tuple #[.int .i64 x, .int .i64 0]) (by simp [results, Try.results57, go_sem]) rfl ⟨HBz.out, by rw [HX4.out]⟩
    · have hd : decide (0 ≤ total ∧ total ≤ (top : Int)) = false := decide_eq_false ht
      rw [hd] at HIb
      have HX3 := hid (HX2.out.trans (if_neg (by omega)))
      clear hd ht
      go_wp2_with fail
      refine (HIb.out _).mono ?_
      rintro e w2 ⟨rfl, rfl⟩
      go_wp2
      refine bodyPost_ret (v := .tuple #[.int .i64 0, .int .i64 0]) (by simp [results, Try.results57, go_sem]) rfl ⟨HB1.out, by rw [HX3.out]⟩
  · have hv' : (V != 0) = true := by simp [hv0]
    have HX3 := hid (show X = 0 from HX.out.trans (if_neg (fun hh => hv0 (HV.out.trans hh.1))))
    clear hv0 HX HV
    go_wp2
    refine bodyPost_ret (v := .tuple #[.int .i64 0, .int .i64 V]) (by simp [results, Try.results57, go_sem]) rfl ⟨HB1.out, by rw [HX3.out]⟩
end Go.Proofs.Ytkboeldafppicaa
