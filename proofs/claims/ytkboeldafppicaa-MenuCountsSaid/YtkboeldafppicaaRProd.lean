/- The document's machine of pairs of states, made plain: chapter 3. -/
import Derived.Test.YtkboeldafppicaaPrdM
import Derived.Test.YtkboeldafppicaaMTwo
import Derived.Test.YtkboeldafppicaaTakeD
import Derived.Deep.AppendLies
set_option linter.unusedVariables false
set_option linter.unusedSimpArgs false
namespace Go.Proofs.Ytkboeldafppicaa
open Go.RowKit Go.Maps

def tbv (t00 t01 t10 t11 : Bool) (x y : Bool) : Bool := if x then (if y then t11 else t10) else (if y then t01 else t00)
def tabA (t00 t01 t10 t11 : Bool) (aa ab : List Bool) (s : Two) : Bool := tbv t00 t01 t10 t11 (mA aa s.1.toNat) (mA ab s.2.toNat)
theorem take_snoc {S : Type} (l : List S) (k : Nat) (s : S) (h : l[k]? = some s) : l.take (k + 1) = l.take k ++ [s] := by
  have hk := (List.getElem?_eq_some_iff.1 h).1
  rw [List.take_add_one, h]; rfl
set_option maxRecDepth 100000 in
set_option maxHeartbeats 8000000 in
theorem rProduct_any (t00 t01 t10 t11 : Bool) (L : Int) (nc ac : Nat) (Na Aa : Option Addr) (rows : List (List Int)) (accs : List Bool) (L' : Int) (nc' ac' : Nat) (Na' Aa' : Option Addr) (rows' : List (List Int)) (accs' : List Bool) (w : World) (h : MachAt w Na rows Aa accs) (h' : MachAt w Na' rows' Aa' accs') :
    Calls Try.prog 89 #[machV L Na rows.length nc Aa accs.length ac, machV L' Na' rows'.length nc' Aa' accs'.length ac', .agg #[.bool t00, .bool t01, .bool t10, .bool t11]] w fun e w' => Below w.heap.size w w' ∧ TwoA w' w.heap.size L rows accs L' rows' accs' (tabA t00 t01 t10 t11) e := by
  obtain ⟨i0, hinf, hz0, hz1, hz2⟩ := info_parts int_info
  obtain ⟨j0, hjnf, hy0, hy1, hy2⟩ := info_parts row_info
  obtain ⟨j3, hjnf3, hx0, hx1, hx2⟩ := info_parts boolM_info
  have hB1 : Below w.heap.size w ((((w.alloc (.cells #[.int .i64 L, .slice Na rows.length nc, .slice Aa accs.length ac] 25)).alloc (.cells #[.int .i64 L', .slice Na' rows'.length nc', .slice Aa' accs'.length ac'] 25)).alloc (.cells #[.bool t00, .bool t01, .bool t10, .bool t11] 101)).alloc (.cells #[.int .i64 0, .slice none 0 0, .slice none 0 0] 25)) := ((((Below.refl _ _).alloc (Nat.le_refl _) _).alloc (by simp) _).alloc (by simp; omega) _).alloc (by simp; omega) _
  have HM1 := hid (h.below hB1)
  have HM1' := hid (h'.below hB1)
  have HV := hid (rPair_any L nc ac Na Aa rows accs L' nc' ac' Na' Aa' rows' accs' _ HM1.out HM1'.out)
  have HB1 := hid hB1
  have hvr := twoE_ok (L := L) (rows := rows) (accs := accs) (L' := L') (rows' := rows') (accs' := accs')
  have HVr := hid hvr
  clear h h' hB1 hvr
  unfold machV at HV ⊢
  go_enter Try.func89, Try.ntmps89
  go_wp2_with fail
  refine HV.out.mono ?_
  rintro e w1 ⟨hb1, rfl⟩
  have z0 : w1.cell? ⟨w.heap.size + 1 + 1 + 1, 0, none⟩ = some (.int .i64 0) := by rw [hb1.cell (by simp)]; go_simp
  have z1 : w1.cell? ⟨w.heap.size + 1 + 1 + 1, 1, none⟩ = some (.slice none 0 0) := by rw [hb1.cell (by simp)]; go_simp
  have z2 : w1.cell? ⟨w.heap.size + 1 + 1 + 1, 2, none⟩ = some (.slice none 0 0) := by rw [hb1.cell (by simp)]; go_simp
  have y0 : w1.frozen? ⟨w.heap.size + 1 + 1 + 1, 0, none⟩ = false := by rw [hb1.frozen (by simp)]; go_simp
  have y1 : w1.frozen? ⟨w.heap.size + 1 + 1 + 1, 1, none⟩ = false := by rw [hb1.frozen (by simp)]; go_simp
  have y2 : w1.frozen? ⟨w.heap.size + 1 + 1 + 1, 2, none⟩ = false := by rw [hb1.frozen (by simp)]; go_simp
  have m0 : w1.cell? ⟨w.heap.size, 0, none⟩ = some (.int .i64 L) := by rw [hb1.cell (by first | (simp; done) | (simp; omega))]; go_simp
  have m1 : w1.cell? ⟨w.heap.size, 1, none⟩ = some (.slice Na rows.length nc) := by rw [hb1.cell (by first | (simp; done) | (simp; omega))]; go_simp
  have m2 : w1.cell? ⟨w.heap.size, 2, none⟩ = some (.slice Aa accs.length ac) := by rw [hb1.cell (by first | (simp; done) | (simp; omega))]; go_simp
  have n0 : w1.cell? ⟨w.heap.size + 1, 0, none⟩ = some (.int .i64 L') := by rw [hb1.cell (by first | (simp; done) | (simp; omega))]; go_simp
  have n1 : w1.cell? ⟨w.heap.size + 1, 1, none⟩ = some (.slice Na' rows'.length nc') := by rw [hb1.cell (by first | (simp; done) | (simp; omega))]; go_simp
  have n2 : w1.cell? ⟨w.heap.size + 1, 2, none⟩ = some (.slice Aa' accs'.length ac') := by rw [hb1.cell (by first | (simp; done) | (simp; omega))]; go_simp
  have a0 : w1.cell? ⟨w.heap.size + 1 + 1, 0, none⟩ = some (.bool t00) := by rw [hb1.cell (by first | (simp; done) | (simp; omega))]; go_simp
  have a1 : w1.cell? ⟨w.heap.size + 1 + 1, 1, none⟩ = some (.bool t01) := by rw [hb1.cell (by first | (simp; done) | (simp; omega))]; go_simp
  have a2 : w1.cell? ⟨w.heap.size + 1 + 1, 2, none⟩ = some (.bool t10) := by rw [hb1.cell (by first | (simp; done) | (simp; omega))]; go_simp
  have a3 : w1.cell? ⟨w.heap.size + 1 + 1, 3, none⟩ = some (.bool t11) := by rw [hb1.cell (by first | (simp; done) | (simp; omega))]; go_simp
  have hsz : w.heap.size + 1 + 1 + 1 < w1.heap.size := cell_lt z0
  have HB2 := hid (HB1.out.trans (hb1.mono HB1.out.size))
  have HM2 := hid (HM1.out.below hb1)
  have HM2' := hid (HM1'.out.below hb1)
  clear hb1 HM1 HM1' HV HB1
  by_cases hv : twoE L rows accs L' rows' accs' = 0
  · obtain ⟨n, hLn, hLn', hg, hg', h64, h64'⟩ := HVr.out hv
    subst hLn
    subst hLn'
    have HG := hid hg
    have HG' := hid hg'
    have HVz := hid hv
    have hal := hg.acc
    have hal' := hg'.acc
    rw [hal] at m2
    rw [hal'] at n2
    rw [hal, hal', hv]
    have HWk := hid (rWalk_any n nc ac nc' ac' Na Aa Na' Aa' rows rows' accs accs' (tabA t00 t01 t10 t11 accs accs') w1 HM2.out HM2'.out hg hg' h64 h64')
    unfold machV at HWk
    clear hg hg' hv hal hal'
    go_wp2_with fail
    refine HWk.out.mono ?_
    rintro e w2 ⟨hb2, i2, v, hF, hi4, rfl, hO⟩
    obtain ⟨hslen, hs0, hscl⟩ := walk_full hF
    obtain ⟨hnd, hpd, hpos⟩ := listTo_ok n (tw rows rows') (tabA t00 t01 t10 t11 accs accs') (0, 0) (inT_next HG.out.cl HG'.out.cl) (inT_start HG.out.pos HG'.out.pos) i2
    generalize (listTo n (tw rows rows') (tabA t00 t01 t10 t11 accs accs') (0, 0) i2).1 = sts at *
    generalize wTo n (tw rows rows') (tabA t00 t01 t10 t11 accs accs') (0, 0) i2 = wds at *
    clear hF
    subst hslen
    obtain ⟨ix, hix⟩ := exists_ix sts
    obtain ⟨gS, cS, hvS, hgS, hcS⟩ := hO.cells hpos
    subst hvS
    have HO := hid hO
    have HCS := hid hcS
    have HIx := hid hix
    have HNd := hid hnd
    have HPd := hid hpd
    have HCl := hid hscl
    have HS0 := hid hs0
    have HB3 := hid (HB2.out.trans (hb2.mono HB2.out.size))
    have HBw := hid hb2
    clear hO hcS hix hnd hpd hscl hs0 HWk hb2
    have hNM := NumMap.made w2 84
    have hmm := @run_makeMap Try.prog
    have hbx : Below w2.heap.size w2 (w2.alloc (.map #[] 0)) := (Below.refl _ _).alloc (Nat.le_refl _) _
    have HNM := hid hNM
    have HO1 := hid (HO.out.below hbx)
    have HBw1 := hid (HBw.out.trans (hbx.mono HBw.out.size))
    have hlt2 : w1.heap.size ≤ w2.heap.size := HBw.out.size
    have hgS2 : gS < w2.heap.size := by have := (HO.out.lt gS rfl).2; exact this
    clear hNM hbx
    go_wp2
    clear hmm
    go_loopw [11] (fun i wq => ∃ (k : Nat), k ≤ sts.length ∧ i = .int .i64 (k : Int) ∧ Hid (NumMap wq 84 w2.heap.size (numbL V2 (sts.take k))) ∧ Hid (OutW wq w1.heap.size (.slice (some ⟨gS, 0, none⟩) sts.length cS) sts wds) ∧ Hid (Below w1.heap.size w1 wq)) (fun i _ => sts.length - (intOf i).toNat)
    case atStart => exact ⟨0, Nat.zero_le _, rfl, HNM.out, HO1.out, HBw1.out⟩
    case round =>
      clear HNM HO1 HBw1
      obtain ⟨k, hk, rfl, HNM, HOw, HBw1⟩ := hrel
      by_cases hlt : k < sts.length
      · have hsm : sts[k]? = some sts[k] := List.getElem?_eq_getElem hlt
        generalize sts[k] = s at hsm
        obtain ⟨gS2, cS2, hv2, _, hc2⟩ := HOw.out.cells hpos
        simp only [Value.slice.injEq, Option.some.injEq, Addr.mk.injEq, and_true, true_and] at hv2
        obtain ⟨rfl, rfl⟩ := hv2
        obtain ⟨x0, x1, _⟩ := hc2 k s hsm
        clear hc2
        have hsP : InT rows rows' s := HPd.out s (List.mem_of_getElem? hsm)
        obtain ⟨si, sj, hss, hsi, hsj⟩ := hsP
        subst hss
        dsimp only at x0 x1
        obtain ⟨kl, hkey⟩ := key_pair2 (si : Int) (sj : Int) (by unfold I64; omega) (by unfold I64; omega)
        have hno : ∀ c, (V2 ((si : Int), (sj : Int)), c) ∉ numbL V2 (sts.take k) := fun c hc => by
          obtain ⟨j, _, hj⟩ := (numbL_mem V2 V2_inj _ _ _).1 hc
          have hjk : j < k := by have := (List.getElem?_eq_some_iff.1 hj).1; rw [List.length_take] at this; omega
          rw [List.getElem?_take_of_lt hjk] at hj
          have := nodup_at HNd.out hj hsm
          omega
        obtain ⟨w5, hput, hNM5, hgr5⟩ := (show NumMap wr.drew 84 w2.heap.size (numbL V2 (sts.take k)) from HNM.out).store law_two Try.underlying131 hkey hno (by rw [numbL_len, List.length_take]; unfold maxLen; omega) (k : Int) (by unfold I64; omega)
        have hNM5' : NumMap w5 84 w2.heap.size (numbL V2 (sts.take (k + 1))) := by
          rw [take_snoc _ _ _ hsm, numbL_snoc]
          rw [List.length_take, Nat.min_eq_left hk]
          exact hNM5
        have HNM5 := hid hNM5'
        have hdr : Below wr.heap.size wr wr.drew := (Below.refl _ _).drew
        have HKg := hid (show w5.cell? ⟨gS, k * 3, none⟩ = some (.int .i64 (si : Int)) ∧ w5.cell? ⟨gS, k * 3 + 1, none⟩ = some (.int .i64 (sj : Int)) from ⟨(grown_cell hgr5 (p := ⟨gS, k * 3, none⟩) (cell_lt x0) (fun e => by have := Option.some.inj e; dsimp only at this; omega)).trans x0, (grown_cell hgr5 (p := ⟨gS, k * 3 + 1, none⟩) (cell_lt x1) (fun e => by have := Option.some.inj e; dsimp only at this; omega)).trans x1⟩)
        have HO5 := hid ((HOw.out.below hdr))
        have HB5 := hid ((HBw1.out.trans (hdr.mono HBw1.out.size)).grown hgr5 (HBw1.out.trans (hdr.mono HBw1.out.size)).size (fun q hq => by cases hq; exact hlt2))
        have hki : (k : Int) < (sts.length : Int) := by omega
        have hk0 : (0 : Int) ≤ (k : Int) := by omega
        have HOz := hid (show OutW w5 w1.heap.size (.slice (some ⟨gS, 0, none⟩) sts.length cS) sts wds from (HOw.out.below hdr).mapped (show NumMap wr.drew 84 w2.heap.size (numbL V2 (sts.take k)) from HNM.out) hgr5)
        clear hno hNM5 hNM5' hkey hdr
        go_wp2_with fail
        refine wp_region_held_drew (S := (fun w' => w'.cell? ⟨gS, k * 3, none⟩ = some (.int .i64 (si : Int)) ∧ w'.cell? ⟨gS, k * 3 + 1, none⟩ = some (.int .i64 (sj : Int)))) (by kernel_rfl) (show _ ∧ _ from ⟨x0, x1⟩) (fun hHeld => ?_)
        refine take_d (i := 0) (d := some 33) (v := ?_) rfl rfl (by kernel_rfl) (by kernel_rfl) (by kernel_rfl) (fun _ _ _ h => h) (Or.inl ⟨by first | rfl | (simp [*, Region.wanted, yielded]), ?hyq1⟩) (by assumption) ?restq1
        case hyq1 => (intro w hSw; (try dsimp only at hSw); go_simp <;> with_reducible rfl)
        try simp only [Act.put, List.setIfInBounds_toArray, List.set_cons_zero, List.set_cons_succ]
        refine take_d (i := 1) (d := some 34) (v := ?_) rfl rfl (by kernel_rfl) (by kernel_rfl) (by kernel_rfl) (fun _ _ _ h => h) (Or.inl ⟨by first | rfl | (simp [*, Region.wanted, yielded]), ?hyq2⟩) (by assumption) ?restq2
        case hyq2 => (intro w hSw; (try dsimp only at hSw); go_simp <;> with_reducible rfl)
        try simp only [Act.put, List.setIfInBounds_toArray, List.set_cons_zero, List.set_cons_succ]
        refine take_d (i := 2) (d := some 35) (v := ?_) rfl rfl (by kernel_rfl) (by kernel_rfl) (by kernel_rfl) (fun _ _ _ h => h) (Or.inl ⟨by first | rfl | (simp [*, Region.wanted, yielded]), ?hyq3⟩) (by assumption) ?restq3
        case hyq3 => (intro w hSw; (try dsimp only at hSw); go_simp <;> with_reducible rfl)
        try simp only [Act.put, List.setIfInBounds_toArray, List.set_cons_zero, List.set_cons_succ]
        refine take_d (i := 3) (d := some 36) (v := ?_) rfl rfl (by kernel_rfl) (by kernel_rfl) (by kernel_rfl) (fun _ _ _ h => h) (Or.inl ⟨by first | rfl | (simp [*, Region.wanted, yielded]), ?hyq4⟩) (by assumption) ?restq4
        case hyq4 => (intro w hSw; (try dsimp only at hSw); go_simp <;> with_reducible rfl)
        try simp only [Act.put, List.setIfInBounds_toArray, List.set_cons_zero, List.set_cons_succ]
        refine take_d (i := 4) (d := some 37) (v := ?_) rfl rfl (by kernel_rfl) (by kernel_rfl) (by kernel_rfl) (fun _ _ _ h => h) (Or.inl ⟨by first | rfl | (simp [*, Region.wanted, yielded]), ?hyq5⟩) (by assumption) ?restq5
        case hyq5 => (intro w hSw; (try dsimp only at hSw); go_simp <;> with_reducible rfl)
        try simp only [Act.put, List.setIfInBounds_toArray, List.set_cons_zero, List.set_cons_succ]
        refine take_d (i := 5) (d := some 38) (v := ?_) rfl rfl (by kernel_rfl) (by kernel_rfl) (by kernel_rfl) (fun _ _ _ h => h) (Or.inl ⟨by first | rfl | (simp [*, Region.wanted, yielded]), ?hyq6⟩) (by assumption) ?restq6
        case hyq6 => (intro w hSw; (try dsimp only at hSw); go_simp <;> with_reducible rfl)
        try simp only [Act.put, List.setIfInBounds_toArray, List.set_cons_zero, List.set_cons_succ]
        refine take_d (i := 6) (d := some 39) (v := ?_) rfl rfl (by kernel_rfl) (by kernel_rfl) (by kernel_rfl) (fun _ _ _ h => h) (Or.inl ⟨by first | rfl | (simp [*, Region.wanted, yielded]), ?hyq7⟩) (by assumption) ?restq7
        case hyq7 => (intro w hSw; (try dsimp only at hSw); go_simp <;> with_reducible rfl)
        try simp only [Act.put, List.setIfInBounds_toArray, List.set_cons_zero, List.set_cons_succ]
        refine take_d (i := 7) (d := some 40) (v := ?_) rfl rfl (by kernel_rfl) (by kernel_rfl) (by kernel_rfl) (fun _ _ _ h => h) (Or.inl ⟨by first | rfl | (simp [*, Region.wanted, yielded]), ?hyq8⟩) (by assumption) ?restq8
        case hyq8 => (intro w hSw; (try dsimp only at hSw); go_simp <;> with_reducible rfl)
        try simp only [Act.put, List.setIfInBounds_toArray, List.set_cons_zero, List.set_cons_succ]
        refine take_d (i := 8) (d := some 41) (v := ?_) rfl rfl (by kernel_rfl) (by kernel_rfl) (by kernel_rfl) (fun _ _ _ h => h) (Or.inl ⟨by first | rfl | (simp [*, Region.wanted, yielded]), ?hyq9⟩) (by assumption) ?restq9
        case hyq9 => (intro w hSw; (try dsimp only at hSw); go_simp <;> with_reducible rfl)
        try simp only [Act.put, List.setIfInBounds_toArray, List.set_cons_zero, List.set_cons_succ]
        refine take_d (i := 9) (d := some 42) (v := ?_) rfl rfl (by kernel_rfl) (by kernel_rfl) (by kernel_rfl) (fun _ _ _ h => h) (Or.inl ⟨by first | rfl | (simp [*, Region.wanted, yielded]), ?hyq10⟩) (by assumption) ?restq10
        case hyq10 => (intro w hSw; (try dsimp only at hSw); go_simp <;> with_reducible rfl)
        try simp only [Act.put, List.setIfInBounds_toArray, List.set_cons_zero, List.set_cons_succ]
        refine take_d (i := 10) (d := some 43) (v := ?_) rfl rfl (by kernel_rfl) (by kernel_rfl) (by kernel_rfl) (fun _ _ _ h => h) (Or.inl ⟨by first | rfl | (simp [*, Region.wanted, yielded]), ?hyq11⟩) (by assumption) ?restq11
        case hyq11 => (intro w hSw; (try dsimp only at hSw); go_simp <;> with_reducible rfl)
        try simp only [Act.put, List.setIfInBounds_toArray, List.set_cons_zero, List.set_cons_succ]
        refine take_d (i := 11) (d := some 44) (v := ?_) rfl rfl (by kernel_rfl) (by kernel_rfl) (by kernel_rfl) (fun _ _ _ h => h) (Or.inl ⟨by first | rfl | (simp [*, Region.wanted, yielded]), ?hyq12⟩) (by assumption) ?restq12
        case hyq12 => (intro w hSw; (try dsimp only at hSw); go_simp <;> with_reducible rfl)
        try simp only [Act.put, List.setIfInBounds_toArray, List.set_cons_zero, List.set_cons_succ]
        refine take_d (i := 12) (d := some 45) (v := ?_) rfl rfl (by kernel_rfl) (by kernel_rfl) (by kernel_rfl) (fun _ _ _ h => h) (Or.inl ⟨by first | rfl | (simp [*, Region.wanted, yielded]), ?hyq13⟩) (by assumption) ?restq13
        case hyq13 => (intro w hSw; (try dsimp only at hSw); go_simp <;> with_reducible rfl)
        try simp only [Act.put, List.setIfInBounds_toArray, List.set_cons_zero, List.set_cons_succ]
        refine wpAnyH_ready (rs := [13]) (by kernel_rfl) (by simp) ?_
        refine AllReadyH.cons (o := _) rfl (fun K hK => ?_) AllReadyH.nil
        go_simp
        go_wp2_with fail
        refine hK.out _ _ HKg.out (fun hHeld => ?_)
        clear hK K
        try simp only [Act.put, List.setIfInBounds_toArray, List.set_cons_zero, List.set_cons_succ]
        refine wpAnyH_done (by kernel_rfl) ?_ _
        go_simp
        go_wp2
        go_roundw
        case rel => exact ⟨k + 1, by omega, by go_num, HNM5.out, HOz.out, HB5.out⟩
        case measure => simp [intOf]; omega
      · obtain rfl : k = sts.length := by omega
        have HNM := hid (show NumMap wr 84 w2.heap.size (numbL V2 sts) by have := HNM.out; rw [List.take_length] at this; exact this)
        have hA : Below wr.heap.size wr (wr.alloc (.cells #[.int .i64 (n : Int), .slice none 0 0, .slice none 0 0] 25)) := (Below.refl _ _).alloc (Nat.le_refl _) _
        have hO7 := HOw.out.below hA
        obtain ⟨vals, hS, hvl, _⟩ := hO7.out
        have HVl := hid hvl
        have hgSl : gS < wr.heap.size := by have := (HOw.out.lt gS rfl).2; exact this
        have hgml : w2.heap.size < wr.heap.size := HNM.out.lt
        have hgne : gS ≠ w2.heap.size := by omega
        have hb7 : Below w1.heap.size w1 (wr.alloc (.cells #[.int .i64 (n : Int), .slice none 0 0, .slice none 0 0] 25)) := HBw1.out.trans (hA.mono HBw1.out.size)
        have HX0 := hid (show OutX w1 (wr.alloc (.cells #[.int .i64 (n : Int), .slice none 0 0, .slice none 0 0] 25)) w1.heap.size wr.heap.size w2.heap.size n 84 (numbL V2 sts) 98 3 sts.length (flatW sts vals) [] [] (.slice (some ⟨gS, 0, none⟩) sts.length cS) (.slice none 0 0) (.slice none 0 0) [] from
          { mem := { bel := hb7
                     hB := Nat.le_refl _
                     hBw := hb7.size
                     S := hS
                     N := ⟨rfl, .inl ⟨rfl, rfl⟩⟩
                     A := ⟨rfl, .inl ⟨rfl, rfl⟩⟩
                     R := fun i hi => by simp at hi
                     SN := by simp [Value.ownBlock]
                     SA := by simp [Value.ownBlock]
                     NA := .inl rfl }
            map := HNM.out.below hA HNM.out.lt
            lg := ⟨HBw1.out.size, by simp⟩
            lm := hlt2
            ne := by omega
            f3 := ⟨by simp [Value.ownBlock]; omega, by simp [Value.ownBlock], by simp [Value.ownBlock], fun i hi => by simp at hi⟩
            fm := ⟨by simp [Value.ownBlock]; omega, by simp [Value.ownBlock], by simp [Value.ownBlock], fun i hi => by simp at hi⟩
            c0 := by go_simp
            c1 := by go_simp
            c2 := by go_simp
            z1 := by go_simp
            z2 := by go_simp })
        have e0 := (HBw1.out.cell (cell_lt m0)).trans m0
        clear hA hO7 hS hvl hb7 HNM HOw hgne
        go_wp2
        generalize hgB : wr.heap.size = gB at *
        clear hgB
        go_loopg [13] sts.length (fun gk i wq => ∃ (k : Nat) (vN vA : Value) (rv : List Value), k + gk = sts.length ∧ i = .int .i64 (k : Int) ∧ Hid (OutX w1 wq w1.heap.size gB w2.heap.size n 84 (numbL V2 sts) 98 3 sts.length (flatW sts vals) (prRows n rows rows' ix (sts.take k)) ((sts.take k).map (tabA t00 t01 t10 t11 accs accs')) (.slice (some ⟨gS, 0, none⟩) sts.length cS) vN vA rv))
        case atStart => exact ⟨0, _, _, _, by omega, rfl, HX0.out⟩
        case round =>
          clear HX0 e0
          obtain ⟨k, vN, vA, rv, hkg, rfl, HX⟩ := hrel
          have hB := HX.out.mem.bel
          have HBq := hid hB
          by_cases hlt : k < sts.length
          · obtain ⟨gk', rfl⟩ : ∃ f, gk = f + 1 := ⟨gk - 1, by omega⟩
            have hsm : sts[k]? = some sts[k] := List.getElem?_eq_getElem hlt
            generalize sts[k] = s at hsm
            have hsP : InT rows rows' s := HPd.out s (List.mem_of_getElem? hsm)
            have HClS := hid (fun c (hc : c < n) => HCl.out s (List.mem_of_getElem? hsm) c hc)
            obtain ⟨si, sj, hss, hsi, hsj⟩ := hsP
            subst hss
            have HSm := hid hsm
            have hprl : (prRows n rows rows' ix (sts.take k)).length = k := by unfold prRows; rw [List.length_map, List.length_take]; omega
            have hacl : ((sts.take k).map (tabA t00 t01 t10 t11 accs accs')).length = k := by rw [List.length_map, List.length_take]; omega
            have HTk := hid (take_snoc _ _ _ hsm)
            have HRs := hid (show prRows n rows rows' ix (sts.take (k + 1)) = prRows n rows rows' ix (sts.take k) ++ [prRow n rows rows' ix ((si : Int), (sj : Int)) n] from by rw [HTk.out]; unfold prRows; rw [List.map_append]; rfl)
            have HAs := hid (show (sts.take (k + 1)).map (tabA t00 t01 t10 t11 accs accs') = (sts.take k).map (tabA t00 t01 t10 t11 accs accs') ++ [tbv t00 t01 t10 t11 (mA accs si) (mA accs' sj)] from by rw [HTk.out, List.map_append]; unfold tabA; simp)
            generalize prRows n rows rows' ix (sts.take k) = rs at *
            generalize (sts.take k).map (tabA t00 t01 t10 t11 accs accs') = ac2 at *
            have HPl := hid (And.intro hprl hacl)
            have HQ := hid (RowQ.nil wr w1.heap.size gB w2.heap.size rs (.slice (some ⟨gS, 0, none⟩) sts.length cS) vN vA rv)
            have hki : (k : Int) < (sts.length : Int) := by omega
            have hk0 : (0 : Int) ≤ (k : Int) := by omega
            clear hsm hB hprl hacl
            go_wp2
            go_loopg [14, 15] n (fun g2 r ci wq => ∃ (c : Nat), c + g2 = n ∧ ci = .int .i64 (c : Int) ∧ Hid (OutX w1 wq w1.heap.size gB w2.heap.size n 84 (numbL V2 sts) 98 3 sts.length (flatW sts vals) rs ac2 (.slice (some ⟨gS, 0, none⟩) sts.length cS) vN vA rv) ∧ Hid (RowQ wq w1.heap.size gB w2.heap.size r (prRow n rows rows' ix ((si : Int), (sj : Int)) c) rs (.slice (some ⟨gS, 0, none⟩) sts.length cS) vN vA rv))
            case atStart => exact ⟨0, by omega, rfl, HX.out, HQ.out⟩
            case round =>
              clear HX HQ HBq
              obtain ⟨c, hc, rfl, HX, HR⟩ := hrel
              have HBq := hid HX.out.mem.bel
              have e0 := (HBq.out.cell (cell_lt m0)).trans m0
              have hrl := prRow_len n rows rows' ix ((si : Int), (sj : Int)) c
              have hS := HX.out.mem.S
              obtain ⟨d0, d1, _⟩ := flatW_at sts vals HVl.out k ((si : Int), (sj : Int)) _ HSm.out (List.getElem?_eq_getElem (by have := HVl.out; omega))
              have x0 : wr.cell? ⟨gS, k * 3, none⟩ = some (.int .i64 (si : Int)) := by rw [hS.cellAt _ (by omega)]; exact d0
              have x1 : wr.cell? ⟨gS, k * 3 + 1, none⟩ = some (.int .i64 (sj : Int)) := by rw [hS.cellAt _ (by omega)]; exact d1
              clear hS d0 d1
              by_cases hcL : c < n
              · obtain ⟨g2', rfl⟩ : ∃ f, gk = f + 1 := ⟨gk - 1, by omega⟩
                have hci : (c : Int) < (n : Int) := by omega
                have hc0 : (0 : Int) ≤ (c : Int) := by omega
                obtain ⟨he1, he2⟩ := HG.out.ent si c hsi hcL
                have hrow := HG.out.row si hsi
                obtain ⟨b1, o1, g1, p1, kk, hNa, g30, g40, _⟩ := HM2.out.row si c hsi (by rw [hrow]; exact hcL)
                rw [he2] at g40
                rw [hrow] at g30
                obtain ⟨he1', he2'⟩ := HG'.out.ent sj c hsj hcL
                have hrow' := HG'.out.row sj hsj
                obtain ⟨b1', o1', g1', p1', kk', hNa', g30', g40', _⟩ := HM2'.out.row sj c hsj (by rw [hrow']; exact hcL)
                rw [he2'] at g40'
                rw [hrow'] at g30'
                have HNx := hid (show tw rows rows' ((si : Int), (sj : Int)) c = ((mN rows si c : Int), (mN rows' sj c : Int)) from by unfold tw; simp)
                have HPs := hid (prRow_succ n rows rows' ix ((si : Int), (sj : Int)) c)
                have hin := HClS.out c hcL
                rw [HNx.out] at hin HPs
                have hmem := pairs_num HNd.out HIx.out _ hin
                have hixl := (HIx.out _ hin).1
                generalize prRow n rows rows' ix ((si : Int), (sj : Int)) c = row1 at *
                subst hNa hNa'
                have l1 : b1 < w1.heap.size := cell_lt g30
                have l2 : g1 < w1.heap.size := cell_lt g40
                have l3 : b1' < w1.heap.size := cell_lt g30'
                have l4 : g1' < w1.heap.size := cell_lt g40'
                generalize hqi : mN rows si c = qi at *
                generalize hqj : mN rows' sj c = qj at *
                generalize ix ((qi : Int), (qj : Int)) = q at *
                clear hqi hqj hin he2 he2' hrow hrow'
                obtain ⟨kl, hkey⟩ := key_pair2 (qi : Int) (qj : Int) (by unfold I64; omega) (by unfold I64; omega)
                have HLk := hid (fun wx (hm : NumMap wx 84 w2.heap.size (numbL V2 sts)) => (hm.lookYes law_two Try.underlying131 hkey (q : Int) hmem).2)
                have hi0 : (0 : Int) ≤ (si : Int) := by omega
                have hi1 : (si : Int) < (rows.length : Int) := by omega
                have hj0 : (0 : Int) ≤ (sj : Int) := by omega
                have hj1 : (sj : Int) < (rows'.length : Int) := by omega
                have hr0 : Below wr.heap.size wr wr := Below.refl _ _
                have e1 := (HBq.out.cell (cell_lt m1)).trans m1
                have f1 := (HBq.out.cell (cell_lt n1)).trans n1
                have q3 := (HBq.out.cell (cell_lt g30)).trans g30
                have q4 := (HBq.out.cell (cell_lt g40)).trans g40
                have q3' := (HBq.out.cell (cell_lt g30')).trans g30'
                have q4' := (HBq.out.cell (cell_lt g40')).trans g40'
                have HKp := hid (fun w' (hb : Below wr.heap.size wr w') => (show w'.cell? ⟨w.heap.size, 1, none⟩ = some (.slice (some ⟨b1, o1, none⟩) rows.length nc) ∧ w'.cell? ⟨w.heap.size + 1, 1, none⟩ = some (.slice (some ⟨b1', o1', none⟩) rows'.length nc') ∧ w'.cell? ⟨gS, k * 3, none⟩ = some (.int .i64 (si : Int)) ∧ w'.cell? ⟨gS, k * 3 + 1, none⟩ = some (.int .i64 (sj : Int)) ∧ w'.cell? ⟨b1, o1 + si, none⟩ = some (.slice (some ⟨g1, p1, none⟩) n kk) ∧ w'.cell? ⟨g1, p1 + c, none⟩ = some (.int .i64 (qi : Int)) ∧ w'.cell? ⟨b1', o1' + sj, none⟩ = some (.slice (some ⟨g1', p1', none⟩) n kk') ∧ w'.cell? ⟨g1', p1' + c, none⟩ = some (.int .i64 (qj : Int)) ∧ (Instr.lookup 131 (.map (some w2.heap.size)) (.agg #[.int .i64 (qi : Int), .int .i64 (qj : Int)]) false).run Try.prog w' = .ok (.int .i64 (q : Int)) w' from ⟨(hb.cell (cell_lt e1)).trans e1, (hb.cell (cell_lt f1)).trans f1, (hb.cell (cell_lt x0)).trans x0, (hb.cell (cell_lt x1)).trans x1, (hb.cell (cell_lt q3)).trans q3, (hb.cell (cell_lt q4)).trans q4, (hb.cell (cell_lt q3')).trans q3', (hb.cell (cell_lt q4')).trans q4', HLk.out w' (HX.out.map.below hb HX.out.map.lt)⟩))
                have hrlo : ∀ q, u14.ownBlock = some q → w1.heap.size ≤ q := fun q hq => (HR.out.own.lt q hq).1
                have hne : ∀ q, q < w1.heap.size → u14.ownBlock ≠ some q := fun q hq e => by have := hrlo q e; omega
                have hneS : u14.ownBlock ≠ some gS := fun e => (HR.out.free gS e).1.1 rfl
                have hneM : u14.ownBlock ≠ some w2.heap.size := fun e => (HR.out.free _ e).2.2 rfl
                have HKg := hid (fun wx w' (hb : Below wr.heap.size wr wx) (hg : wx.grownBy w' u14.ownBlock) => (show w'.cell? ⟨w.heap.size, 1, none⟩ = some (.slice (some ⟨b1, o1, none⟩) rows.length nc) ∧ w'.cell? ⟨w.heap.size + 1, 1, none⟩ = some (.slice (some ⟨b1', o1', none⟩) rows'.length nc') ∧ w'.cell? ⟨gS, k * 3, none⟩ = some (.int .i64 (si : Int)) ∧ w'.cell? ⟨gS, k * 3 + 1, none⟩ = some (.int .i64 (sj : Int)) ∧ w'.cell? ⟨b1, o1 + si, none⟩ = some (.slice (some ⟨g1, p1, none⟩) n kk) ∧ w'.cell? ⟨g1, p1 + c, none⟩ = some (.int .i64 (qi : Int)) ∧ w'.cell? ⟨b1', o1' + sj, none⟩ = some (.slice (some ⟨g1', p1', none⟩) n kk') ∧ w'.cell? ⟨g1', p1' + c, none⟩ = some (.int .i64 (qj : Int)) ∧ (Instr.lookup 131 (.map (some w2.heap.size)) (.agg #[.int .i64 (qi : Int), .int .i64 (qj : Int)]) false).run Try.prog w' = .ok (.int .i64 (q : Int)) w' from by
                  obtain ⟨k1, k2, k3, k4, k5, k6, k7, k8, _⟩ := HKp.out wx hb
                  have hmx := HX.out.map.below hb HX.out.map.lt
                  exact ⟨(grown_cell hg (cell_lt k1) (hne _ (by dsimp only; omega))).trans k1, (grown_cell hg (cell_lt k2) (hne _ (by dsimp only; omega))).trans k2, (grown_cell hg (cell_lt k3) hneS).trans k3, (grown_cell hg (cell_lt k4) hneS).trans k4, (grown_cell hg (cell_lt k5) (hne _ l1)).trans k5, (grown_cell hg (cell_lt k6) (hne _ l2)).trans k6, (grown_cell hg (cell_lt k7) (hne _ l3)).trans k7, (grown_cell hg (cell_lt k8) (hne _ l4)).trans k8, HLk.out w' (hmx.block (hg.block _ hmx.lt (fun e => hneM e.symm)))⟩))
                have hbw1 := HBq.out.size
                have hn6 := HG.out.hi
                clear e1 f1 x0 x1 q3 q4 q3' q4' g30 g40 g30' g40' hkey hmem hrlo hne hneS hneM
                go_wp2_with fail
                refine wp_region_held_drew (S := (fun w' => w'.cell? ⟨w.heap.size, 1, none⟩ = some (.slice (some ⟨b1, o1, none⟩) rows.length nc) ∧ w'.cell? ⟨w.heap.size + 1, 1, none⟩ = some (.slice (some ⟨b1', o1', none⟩) rows'.length nc') ∧ w'.cell? ⟨gS, k * 3, none⟩ = some (.int .i64 (si : Int)) ∧ w'.cell? ⟨gS, k * 3 + 1, none⟩ = some (.int .i64 (sj : Int)) ∧ w'.cell? ⟨b1, o1 + si, none⟩ = some (.slice (some ⟨g1, p1, none⟩) n kk) ∧ w'.cell? ⟨g1, p1 + c, none⟩ = some (.int .i64 (qi : Int)) ∧ w'.cell? ⟨b1', o1' + sj, none⟩ = some (.slice (some ⟨g1', p1', none⟩) n kk') ∧ w'.cell? ⟨g1', p1' + c, none⟩ = some (.int .i64 (qj : Int)) ∧ (Instr.lookup 131 (.map (some w2.heap.size)) (.agg #[.int .i64 (qi : Int), .int .i64 (qj : Int)]) false).run Try.prog w' = .ok (.int .i64 (q : Int)) w')) (by kernel_rfl) (HKp.out _ hr0.drew) (fun hHeld => ?_)
                refine take_d (i := 0) (d := some 61) (v := ?_) rfl rfl (by kernel_rfl) (by kernel_rfl) (by kernel_rfl) (fun _ _ _ h => h) (Or.inl ⟨by first | rfl | (simp [*, Region.wanted, yielded]), ?hyp1⟩) (by assumption) ?restp1
                case hyp1 => (intro w hSw; (try dsimp only at hSw); go_simp <;> with_reducible rfl)
                try simp only [Act.put, List.setIfInBounds_toArray, List.set_cons_zero, List.set_cons_succ]
                refine take_d (i := 1) (d := some 62) (v := ?_) rfl rfl (by kernel_rfl) (by kernel_rfl) (by kernel_rfl) (fun _ _ _ h => h) (Or.inl ⟨by first | rfl | (simp [*, Region.wanted, yielded]), ?hyp2⟩) (by assumption) ?restp2
                case hyp2 => (intro w hSw; (try dsimp only at hSw); go_simp <;> with_reducible rfl)
                try simp only [Act.put, List.setIfInBounds_toArray, List.set_cons_zero, List.set_cons_succ]
                refine take_d (i := 2) (d := some 63) (v := ?_) rfl rfl (by kernel_rfl) (by kernel_rfl) (by kernel_rfl) (fun _ _ _ h => h) (Or.inl ⟨by first | rfl | (simp [*, Region.wanted, yielded]), ?hyp3⟩) (by assumption) ?restp3
                case hyp3 => (intro w hSw; (try dsimp only at hSw); go_simp <;> with_reducible rfl)
                try simp only [Act.put, List.setIfInBounds_toArray, List.set_cons_zero, List.set_cons_succ]
                refine take_d (i := 3) (d := some 64) (v := ?_) rfl rfl (by kernel_rfl) (by kernel_rfl) (by kernel_rfl) (fun _ _ _ h => h) (Or.inl ⟨by first | rfl | (simp [*, Region.wanted, yielded]), ?hyp4⟩) (by assumption) ?restp4
                case hyp4 => (intro w hSw; (try dsimp only at hSw); go_simp <;> with_reducible rfl)
                try simp only [Act.put, List.setIfInBounds_toArray, List.set_cons_zero, List.set_cons_succ]
                refine take_d (i := 4) (d := some 65) (v := ?_) rfl rfl (by kernel_rfl) (by kernel_rfl) (by kernel_rfl) (fun _ _ _ h => h) (Or.inl ⟨by first | rfl | (simp [*, Region.wanted, yielded]), ?hyp5⟩) (by assumption) ?restp5
                case hyp5 => (intro w hSw; (try dsimp only at hSw); go_simp <;> with_reducible rfl)
                try simp only [Act.put, List.setIfInBounds_toArray, List.set_cons_zero, List.set_cons_succ]
                refine take_d (i := 5) (d := some 66) (v := ?_) rfl rfl (by kernel_rfl) (by kernel_rfl) (by kernel_rfl) (fun _ _ _ h => h) (Or.inl ⟨by first | rfl | (simp [*, Region.wanted, yielded]), ?hyp6⟩) (by assumption) ?restp6
                case hyp6 => (intro w hSw; (try dsimp only at hSw); go_simp <;> with_reducible rfl)
                try simp only [Act.put, List.setIfInBounds_toArray, List.set_cons_zero, List.set_cons_succ]
                refine take_d (i := 6) (d := some 67) (v := ?_) rfl rfl (by kernel_rfl) (by kernel_rfl) (by kernel_rfl) (fun _ _ _ h => h) (Or.inl ⟨by first | rfl | (simp [*, Region.wanted, yielded]), ?hyp7⟩) (by assumption) ?restp7
                case hyp7 => (intro w hSw; (try dsimp only at hSw); go_simp <;> with_reducible rfl)
                try simp only [Act.put, List.setIfInBounds_toArray, List.set_cons_zero, List.set_cons_succ]
                refine take_d (i := 7) (d := some 68) (v := ?_) rfl rfl (by kernel_rfl) (by kernel_rfl) (by kernel_rfl) (fun _ _ _ h => h) (Or.inl ⟨by first | rfl | (simp [*, Region.wanted, yielded]), ?hyp8⟩) (by assumption) ?restp8
                case hyp8 => (intro w hSw; (try dsimp only at hSw); go_simp <;> with_reducible rfl)
                try simp only [Act.put, List.setIfInBounds_toArray, List.set_cons_zero, List.set_cons_succ]
                refine take_d (i := 8) (d := some 69) (v := ?_) rfl rfl (by kernel_rfl) (by kernel_rfl) (by kernel_rfl) (fun _ _ _ h => h) (Or.inl ⟨by first | rfl | (simp [*, Region.wanted, yielded]), ?hyp9⟩) (by assumption) ?restp9
                case hyp9 => (intro w hSw; (try dsimp only at hSw); go_simp <;> with_reducible rfl)
                try simp only [Act.put, List.setIfInBounds_toArray, List.set_cons_zero, List.set_cons_succ]
                refine take_d (i := 9) (d := some 70) (v := ?_) rfl rfl (by kernel_rfl) (by kernel_rfl) (by kernel_rfl) (fun _ _ _ h => h) (Or.inl ⟨by first | rfl | (simp [*, Region.wanted, yielded]), ?hyp10⟩) (by assumption) ?restp10
                case hyp10 => (intro w hSw; (try dsimp only at hSw); go_simp <;> with_reducible rfl)
                try simp only [Act.put, List.setIfInBounds_toArray, List.set_cons_zero, List.set_cons_succ]
                refine take_d (i := 10) (d := some 71) (v := ?_) rfl rfl (by kernel_rfl) (by kernel_rfl) (by kernel_rfl) (fun _ _ _ h => h) (Or.inl ⟨by first | rfl | (simp [*, Region.wanted, yielded]), ?hyp11⟩) (by assumption) ?restp11
                case hyp11 => (intro w hSw; (try dsimp only at hSw); go_simp <;> with_reducible rfl)
                try simp only [Act.put, List.setIfInBounds_toArray, List.set_cons_zero, List.set_cons_succ]
                refine take_d (i := 11) (d := some 72) (v := ?_) rfl rfl (by kernel_rfl) (by kernel_rfl) (by kernel_rfl) (fun _ _ _ h => h) (Or.inl ⟨by first | rfl | (simp [*, Region.wanted, yielded]), ?hyp12⟩) (by assumption) ?restp12
                case hyp12 => (intro w hSw; (try dsimp only at hSw); go_simp <;> with_reducible rfl)
                try simp only [Act.put, List.setIfInBounds_toArray, List.set_cons_zero, List.set_cons_succ]
                refine take_d (i := 12) (d := some 73) (v := ?_) rfl rfl (by kernel_rfl) (by kernel_rfl) (by kernel_rfl) (fun _ _ _ h => h) (Or.inl ⟨by first | rfl | (simp [*, Region.wanted, yielded]), ?hyp13⟩) (by assumption) ?restp13
                case hyp13 => (intro w hSw; (try dsimp only at hSw); go_simp <;> with_reducible rfl)
                try simp only [Act.put, List.setIfInBounds_toArray, List.set_cons_zero, List.set_cons_succ]
                refine take_d (i := 13) (d := some 74) (v := ?_) rfl rfl (by kernel_rfl) (by kernel_rfl) (by kernel_rfl) (fun _ _ _ h => h) (Or.inl ⟨by first | rfl | (simp [*, Region.wanted, yielded]), ?hyp14⟩) (by assumption) ?restp14
                case hyp14 => (intro w hSw; (try dsimp only at hSw); go_simp <;> with_reducible rfl)
                try simp only [Act.put, List.setIfInBounds_toArray, List.set_cons_zero, List.set_cons_succ]
                refine take_d (i := 14) (d := some 75) (v := ?_) rfl rfl (by kernel_rfl) (by kernel_rfl) (by kernel_rfl) (fun _ _ _ h => h) (Or.inl ⟨by first | rfl | (simp [*, Region.wanted, yielded]), ?hyp15⟩) (by assumption) ?restp15
                case hyp15 => (intro w hSw; (try dsimp only at hSw); go_simp <;> with_reducible rfl)
                try simp only [Act.put, List.setIfInBounds_toArray, List.set_cons_zero, List.set_cons_succ]
                refine take_d (i := 15) (d := some 76) (v := ?_) rfl rfl (by kernel_rfl) (by kernel_rfl) (by kernel_rfl) (fun _ _ _ h => h) (Or.inl ⟨by first | rfl | (simp [*, Region.wanted, yielded]), ?hyp16⟩) (by assumption) ?restp16
                case hyp16 => (intro w hSw; (try dsimp only at hSw); go_simp <;> with_reducible rfl)
                try simp only [Act.put, List.setIfInBounds_toArray, List.set_cons_zero, List.set_cons_succ]
                refine take_d (i := 16) (d := some 77) (v := ?_) rfl rfl (by kernel_rfl) (by kernel_rfl) (by kernel_rfl) (fun _ _ _ h => h) (Or.inl ⟨by first | rfl | (simp [*, Region.wanted, yielded]), ?hyp17⟩) (by assumption) ?restp17
                case hyp17 => (intro w hSw; (try dsimp only at hSw); go_simp <;> with_reducible rfl)
                try simp only [Act.put, List.setIfInBounds_toArray, List.set_cons_zero, List.set_cons_succ]
                refine take_d (i := 17) (d := some 78) (v := ?_) rfl rfl (by kernel_rfl) (by kernel_rfl) (by kernel_rfl) (fun _ _ _ h => h) (Or.inl ⟨by first | rfl | (simp [*, Region.wanted, yielded]), ?hyp18⟩) (by assumption) ?restp18
                case hyp18 => (intro w hSw; (try dsimp only at hSw); go_simp <;> with_reducible rfl)
                try simp only [Act.put, List.setIfInBounds_toArray, List.set_cons_zero, List.set_cons_succ]
                refine take_d (i := 18) (d := some 79) (v := ?_) rfl rfl (by kernel_rfl) (by kernel_rfl) (by kernel_rfl) (fun _ _ _ h => h) (Or.inl ⟨by first | rfl | (simp [*, Region.wanted, yielded]), ?hyp19⟩) (by assumption) ?restp19
                case hyp19 => (intro w hSw; (try dsimp only at hSw); go_simp <;> with_reducible rfl)
                try simp only [Act.put, List.setIfInBounds_toArray, List.set_cons_zero, List.set_cons_succ]
                refine take_d (i := 19) (d := some 80) (v := ?_) rfl rfl (by kernel_rfl) (by kernel_rfl) (by kernel_rfl) (fun _ _ _ h => h) (Or.inl ⟨by first | rfl | (simp [*, Region.wanted, yielded]), ?hyp20⟩) (by assumption) ?restp20
                case hyp20 => (intro w hSw; (try dsimp only at hSw); go_simp <;> with_reducible rfl)
                try simp only [Act.put, List.setIfInBounds_toArray, List.set_cons_zero, List.set_cons_succ]
                refine take_d (i := 20) (d := some 81) (v := ?_) rfl rfl (by kernel_rfl) (by kernel_rfl) (by kernel_rfl) (fun _ _ _ h => h) (Or.inl ⟨by first | rfl | (simp [*, Region.wanted, yielded]), ?hyp21⟩) (by assumption) ?restp21
                case hyp21 => (intro w hSw; (try dsimp only at hSw); go_simp <;> with_reducible rfl)
                try simp only [Act.put, List.setIfInBounds_toArray, List.set_cons_zero, List.set_cons_succ]
                refine take_d (i := 21) (d := some 82) (v := ?_) rfl rfl (by kernel_rfl) (by kernel_rfl) (by kernel_rfl) (fun _ _ _ h => h) (Or.inl ⟨by first | rfl | (simp [*, Region.wanted, yielded]), ?hyp22⟩) (by assumption) ?restp22
                case hyp22 => (intro w hSw; (try dsimp only at hSw); go_simp <;> with_reducible rfl)
                try simp only [Act.put, List.setIfInBounds_toArray, List.set_cons_zero, List.set_cons_succ]
                refine take_d (i := 22) (d := some 83) (v := ?_) rfl rfl (by kernel_rfl) (by kernel_rfl) (by kernel_rfl) (fun _ _ _ h => h) (Or.inl ⟨by first | rfl | (simp [*, Region.wanted, yielded]), ?hyp23⟩) (by assumption) ?restp23
                case hyp23 => (intro w hSw; (try dsimp only at hSw); go_simp <;> with_reducible rfl)
                try simp only [Act.put, List.setIfInBounds_toArray, List.set_cons_zero, List.set_cons_succ]
                refine take_d (i := 23) (d := some 84) (v := ?_) rfl rfl (by kernel_rfl) (by kernel_rfl) (by kernel_rfl) (fun _ _ _ h => h) (Or.inl ⟨by first | rfl | (simp [*, Region.wanted, yielded]), ?hyp24⟩) (by assumption) ?restp24
                case hyp24 => (intro w hSw; (try dsimp only at hSw); go_simp <;> with_reducible rfl)
                try simp only [Act.put, List.setIfInBounds_toArray, List.set_cons_zero, List.set_cons_succ]
                refine take_d (i := 24) (d := some 85) (v := ?_) rfl rfl (by kernel_rfl) (by kernel_rfl) (by kernel_rfl) (fun _ _ _ h => h) (Or.inl ⟨by first | rfl | (simp [*, Region.wanted, yielded]), ?hyp25⟩) (by assumption) ?restp25
                case hyp25 => (intro w hSw; (try dsimp only at hSw); go_simp <;> with_reducible rfl)
                try simp only [Act.put, List.setIfInBounds_toArray, List.set_cons_zero, List.set_cons_succ]
                refine take_d (i := 25) (d := some 86) (v := ?_) rfl rfl (by kernel_rfl) (by kernel_rfl) (by kernel_rfl) (fun _ _ _ h => h) (Or.inl ⟨by first | rfl | (simp [*, Region.wanted, yielded]), ?hyp26⟩) (by assumption) ?restp26
                case hyp26 => (intro w hSw; (try dsimp only at hSw); go_simp <;> with_reducible rfl)
                try simp only [Act.put, List.setIfInBounds_toArray, List.set_cons_zero, List.set_cons_succ]
                refine take_d (i := 26) (d := some 87) (v := ?_) rfl rfl (by kernel_rfl) (by kernel_rfl) (by kernel_rfl) (fun _ _ _ h => h) (Or.inl ⟨by first | rfl | (simp [*, Region.wanted, yielded]), ?hyp27⟩) (by assumption) ?restp27
                case hyp27 => (intro w hSw; (try dsimp only at hSw); go_simp <;> with_reducible rfl)
                try simp only [Act.put, List.setIfInBounds_toArray, List.set_cons_zero, List.set_cons_succ]
                refine take_d (i := 27) (d := some 88) (v := ?_) rfl rfl (by kernel_rfl) (by kernel_rfl) (by kernel_rfl) (fun _ _ _ h => h) (Or.inl ⟨by first | rfl | (simp [*, Region.wanted, yielded]), ?hyp28⟩) (by assumption) ?restp28
                case hyp28 => (intro w hSw; (try dsimp only at hSw); go_simp <;> with_reducible rfl)
                try simp only [Act.put, List.setIfInBounds_toArray, List.set_cons_zero, List.set_cons_succ]
                refine wpAnyH_ready (rs := [28]) (by kernel_rfl) (by simp) ?_
                refine AllReadyH.cons (o := _) rfl (fun K hK => ?_) AllReadyH.nil
                go_simp
                go_wp2_with fail
                refine hK.out _ _ (HKp.out _ (by repeat (first | exact hr0 | apply Below.drew | (refine Below.alloc ?_ (by first | exact Below.size (by assumption) | omega | (simp; done) | (simp; omega)) _)))) (fun hHeld => ?_)
                clear hK K
                try simp only [Act.put, List.setIfInBounds_toArray, List.set_cons_zero, List.set_cons_succ]
                refine wpAnyH_ready (rs := [29]) (by kernel_rfl) (by simp) ?_
                refine AllReadyH.cons (o := _) rfl (fun K hK => ?_) AllReadyH.nil
                have p8 : Below wr.heap.size wr wr.drew := hr0.drew
                have HX8 := hid (HX.out.below (p8.alloc p8.size (.cells #[.int .i64 (q : Int)] 3)))
                have HR8 := hid (HR.out.below (p8.alloc p8.size (.cells #[.int .i64 (q : Int)] 3)))
                have hR8 := HR8.out.own
                rw [hrl] at hR8
                refine step_append_lies _ rfl _ _ 26 rfl w1.heap.size 3 i0 (.int .i64 0) 1 8 Try.underlying26 hinf hz0 hz1 hz2 rfl (by decide) u14 c (row1.map (Value.int .i64)) (by rfl) (by exact hR8) ⟨wr.drew.heap.size, 0, none⟩ 1 1 [.int .i64 (q : Int)] (by rfl) rfl (World.news_of_block (cs := #[.int .i64 (q : Int)]) (t := 3) (fr := (0, 0)) (heap_alloc_new wr.drew _)) (by simp [Value.oneCell']) (by decide) (by unfold maxLen; omega) (by omega) (by simp; omega) _ rfl ?_
                intro gV cV w9 hown9 hgr9 hat9 hlt9
                have hloc := lies_loc (n := c + 1) (c := cV) hat9
                obtain ⟨hR9, hX9⟩ := HR8.out.appX HX8.out (by rw [hrl]; exact hown9) hgr9 hloc
                have HX9 := hid hX9
                have HR9 := hid hR9
                have hkeep := HKg.out _ _ (p8.alloc p8.size _) hgr9
                clear hown9 hat9 hlt9 hloc hR8 hR9 hX9
                refine hK.out _ _ hkeep (fun hHeld => ?_)
                clear hK K
                try simp only [Act.put, List.setIfInBounds_toArray, List.set_cons_zero, List.set_cons_succ]
                refine take_d (i := 30) (d := some 14) (v := ?_) rfl rfl (by kernel_rfl) (by kernel_rfl) (by kernel_rfl) (fun _ _ _ h => h) (Or.inl ⟨by first | rfl | (simp [*, Region.wanted, yielded]), ?hyp29⟩) (by assumption) ?restp29
                case hyp29 => (intro w hSw; (try dsimp only at hSw); go_simp <;> with_reducible rfl)
                try simp only [Act.put, List.setIfInBounds_toArray, List.set_cons_zero, List.set_cons_succ]
                refine wpAnyH_done (by kernel_rfl) ?_ _
                go_simp
                clear hHeld hkeep hgr9
                go_wp2
                go_roundg g2'
                case rel => exact ⟨c + 1, by omega, by go_num, HX9.out, by rw [HPs.out]; exact HR9.out⟩
                all_goals omega
              · obtain rfl : n = c := by omega
                have hlo := HG.out.lo
                obtain ⟨gr, cr, hvr, hgr, hgr2⟩ := HR.out.own.form (by omega)
                subst hvr
                have HFr := hid (HR.out.free gr rfl)
                obtain ⟨hprl, hacl⟩ := HPl.out
                have hlf : ¬ (n : Int) < (n : Int) := by omega
                generalize prRow n rows rows' ix ((si : Int), (sj : Int)) n = row1 at *
                have hrs : rs.length ≤ 5000 := by omega
                have has : ac2.length ≤ 5000 := by omega
                have hA : Below wr.heap.size wr (wr.alloc (.cells #[.slice (some ⟨gr, 0, none⟩) row1.length cr] 26)) := (Below.refl _ _).alloc (Nat.le_refl _) _
                have HO1 := hid (HX.out.below hA)
                have HR1 := hid (HR.out.below hA)
                have hN1 := HO1.out.mem.N
                have hBw1 := HO1.out.mem.hBw
                have hN0 := HX.out.c1
                have hSn : (Value.slice (some ⟨gS, 0, none⟩) sts.length cS).ownBlock ≠ none := by simp [Value.ownBlock]
                have hrw := HR1.out.own
                have HRl := hid hrl
                clear x0 x1 hA hrl hprl hacl
                go_wp2_with (at_builtin; refine wpList_append_lies _ rfl _ _ 22 rfl w1.heap.size 26 j0 (.slice none 0 0) 1 24 Try.underlying22 hjnf hy0 hy1 hy2 rfl (by decide) vN rs.length rv rfl hN1 ⟨wr.heap.size, 0, none⟩ 1 1 [.slice (some ⟨gr, 0, none⟩) row1.length cr] rfl rfl (World.news_of_block (cs := #[.slice (some ⟨gr, 0, none⟩) row1.length cr]) (t := 26) (fr := (0, 0)) (heap_alloc_new wr _)) (by simp [Value.oneCell']) (by decide) (by unfold maxLen; omega) (by omega) (by simp; omega) _ rfl ?_)
                intro gU cU wN hownN hgrN hatN hltN
                have hsz9 : (wr.alloc (.cells #[.slice (some ⟨gr, 0, none⟩) row1.length cr] 26)).heap.size = wr.heap.size + 1 := by simp
                have hloc := lies_loc (n := rs.length + 1) (c := cU) hatN
                rw [← hsz9] at hloc
                clear hsz9
                have k1c := (grown_cell hgrN (cell_lt HO1.out.c1) (HO1.out.f3.2.1)).trans HO1.out.c1
                have k1f := (grown_frozen hgrN (p := ⟨gB, 1, none⟩) (cell_lt HO1.out.c1) (HO1.out.f3.2.1)).trans HO1.out.z1
                have HO3 := hid (HO1.out.pushN hownN hgrN hloc hrw ⟨gr, cr, rfl, HFr.out.1⟩ (by simp only [Value.ownBlock, ne_eq, Option.some.injEq]; exact HFr.out.2.1) (by simp only [Value.ownBlock, ne_eq, Option.some.injEq]; exact HFr.out.2.2) hSn)
                clear hownN hgrN hatN hltN hloc hrw hSn hN1 hN0 HR HR1 HO1 HX
                go_upto_region 20 with (fail)
                generalize wN.setCell ⟨gB, 1, none⟩ (.slice (some ⟨gU, 0, none⟩) (rs.length + 1) cU) = wq at *
                clear k1c k1f e0
                have hBq := HO3.out.mem.bel
                have hS := HO3.out.mem.S
                obtain ⟨d0, d1, _⟩ := flatW_at sts vals HVl.out k ((si : Int), (sj : Int)) _ HSm.out (List.getElem?_eq_getElem (by have := HVl.out; omega))
                have x0 : wq.cell? ⟨gS, k * 3, none⟩ = some (.int .i64 (si : Int)) := by rw [hS.cellAt _ (by omega)]; exact d0
                have x1 : wq.cell? ⟨gS, k * 3 + 1, none⟩ = some (.int .i64 (sj : Int)) := by rw [hS.cellAt _ (by omega)]; exact d1
                clear hS d0 d1
                rcases HM2.out.aat with e | ⟨bA, oA, hAa, hca⟩
                · have h9 := HG.out.acc; rw [e] at h9; simp at h9; omega
                have a5 := hca si (by rw [HG.out.acc]; exact hsi)
                rw [show accs[si]?.getD false = mA accs si from rfl] at a5
                rcases HM2'.out.aat with e | ⟨bA', oA', hAa', hca'⟩
                · have h9 := HG'.out.acc; rw [e] at h9; simp at h9; omega
                have a6 := hca' sj (by rw [HG'.out.acc]; exact hsj)
                rw [show accs'[sj]?.getD false = mA accs' sj from rfl] at a6
                subst hAa hAa'
                clear hca hca'
                generalize hba : mA accs si = ba at *
                generalize hbb : mA accs' sj = bb at *
                clear hba hbb
                have a7 : w1.cell? ⟨w.heap.size + 1 + 1, bitN ba * 2 + bitN bb, none⟩ = some (.bool (tbv t00 t01 t10 t11 ba bb)) := by
                  cases ba with
                  | true =>
                    cases bb with
                    | true => exact a3
                    | false => exact a2
                  | false =>
                    cases bb with
                    | true => exact a1
                    | false => exact a0
                generalize tbv t00 t01 t10 t11 ba bb = bt at *
                have hb1 : (bitN ba : Int) < 2 := by cases ba <;> decide
                have hb0 : (0 : Int) ≤ (bitN ba : Int) := by omega
                have hc1 : (bitN bb : Int) < 2 := by cases bb <;> decide
                have hc0 : (0 : Int) ≤ (bitN bb : Int) := by omega
                have hi0 : (0 : Int) ≤ (si : Int) := by omega
                have hi1 : (si : Int) < (rows.length : Int) := by omega
                have hj0 : (0 : Int) ≤ (sj : Int) := by omega
                have hj1 : (sj : Int) < (rows'.length : Int) := by omega
                have la : bA < w1.heap.size := cell_lt a5
                have la' : bA' < w1.heap.size := cell_lt a6
                have b2 := (hBq.cell (cell_lt m2)).trans m2
                have b2' := (hBq.cell (cell_lt n2)).trans n2
                have b5 := (hBq.cell (cell_lt a5)).trans a5
                have b6 := (hBq.cell (cell_lt a6)).trans a6
                have b7 := (hBq.cell (cell_lt a7)).trans a7
                have c2v := HO3.out.c2
                have z2v := HO3.out.z2
                have hlgq := HO3.out.lg.2
                have hlgB := HO3.out.lg.1
                have hBwq := HO3.out.mem.hBw
                have hr0 : Below wq.heap.size wq wq := Below.refl _ _
                have hvlo : ∀ q, vA.ownBlock = some q → w1.heap.size ≤ q := fun q hq => (HO3.out.mem.A.lt q hq).1
                have hne : ∀ q, q < w1.heap.size → vA.ownBlock ≠ some q := fun q hq e => by have := hvlo q e; omega
                have hneS : vA.ownBlock ≠ some gS := fun hh => HO3.out.mem.SA (by rw [hh]; rfl)
                have hgBS : gB ≠ gS := fun hh => HO3.out.f3.1 (by rw [hh]; rfl)
                have HKp := hid (fun w' (hb : Below wq.heap.size wq w') => (show w'.cell? ⟨w.heap.size, 2, none⟩ = some (.slice (some ⟨bA, oA, none⟩) rows.length ac) ∧ w'.cell? ⟨w.heap.size + 1, 2, none⟩ = some (.slice (some ⟨bA', oA', none⟩) rows'.length ac') ∧ w'.cell? ⟨gS, k * 3, none⟩ = some (.int .i64 (si : Int)) ∧ w'.cell? ⟨gS, k * 3 + 1, none⟩ = some (.int .i64 (sj : Int)) ∧ w'.cell? ⟨bA, oA + si, none⟩ = some (.bool ba) ∧ w'.cell? ⟨bA', oA' + sj, none⟩ = some (.bool bb) ∧ w'.cell? ⟨w.heap.size + 1 + 1, bitN ba * 2 + bitN bb, none⟩ = some (.bool bt) from ⟨(hb.cell (cell_lt b2)).trans b2, (hb.cell (cell_lt b2')).trans b2', (hb.cell (cell_lt x0)).trans x0, (hb.cell (cell_lt x1)).trans x1, (hb.cell (cell_lt b5)).trans b5, (hb.cell (cell_lt b6)).trans b6, (hb.cell (cell_lt b7)).trans b7⟩))
                have HKg := hid (fun wx w' (hb : Below wq.heap.size wq wx) (hg : wx.grownBy w' vA.ownBlock) => (show w'.cell? ⟨w.heap.size, 2, none⟩ = some (.slice (some ⟨bA, oA, none⟩) rows.length ac) ∧ w'.cell? ⟨w.heap.size + 1, 2, none⟩ = some (.slice (some ⟨bA', oA', none⟩) rows'.length ac') ∧ w'.cell? ⟨gS, k * 3, none⟩ = some (.int .i64 (si : Int)) ∧ w'.cell? ⟨gS, k * 3 + 1, none⟩ = some (.int .i64 (sj : Int)) ∧ w'.cell? ⟨bA, oA + si, none⟩ = some (.bool ba) ∧ w'.cell? ⟨bA', oA' + sj, none⟩ = some (.bool bb) ∧ w'.cell? ⟨w.heap.size + 1 + 1, bitN ba * 2 + bitN bb, none⟩ = some (.bool bt) from by
                  obtain ⟨k1, k2, k3, k4, k5, k6, k7⟩ := HKp.out wx hb
                  exact ⟨(grown_cell hg (cell_lt k1) (hne _ (by dsimp only; omega))).trans k1, (grown_cell hg (cell_lt k2) (hne _ (by dsimp only; omega))).trans k2, (grown_cell hg (cell_lt k3) hneS).trans k3, (grown_cell hg (cell_lt k4) hneS).trans k4, (grown_cell hg (cell_lt k5) (hne _ la)).trans k5, (grown_cell hg (cell_lt k6) (hne _ la')).trans k6, (grown_cell hg (cell_lt k7) (hne _ (by dsimp only; omega))).trans k7⟩))
                have HKs := hid (fun wx w0' u (hb : Below wq.heap.size wq wx) (hg : wx.grownBy w0' vA.ownBlock) => (show (w0'.setCell ⟨gB, 2, none⟩ u).cell? ⟨w.heap.size, 2, none⟩ = some (.slice (some ⟨bA, oA, none⟩) rows.length ac) ∧ (w0'.setCell ⟨gB, 2, none⟩ u).cell? ⟨w.heap.size + 1, 2, none⟩ = some (.slice (some ⟨bA', oA', none⟩) rows'.length ac') ∧ (w0'.setCell ⟨gB, 2, none⟩ u).cell? ⟨gS, k * 3, none⟩ = some (.int .i64 (si : Int)) ∧ (w0'.setCell ⟨gB, 2, none⟩ u).cell? ⟨gS, k * 3 + 1, none⟩ = some (.int .i64 (sj : Int)) ∧ (w0'.setCell ⟨gB, 2, none⟩ u).cell? ⟨bA, oA + si, none⟩ = some (.bool ba) ∧ (w0'.setCell ⟨gB, 2, none⟩ u).cell? ⟨bA', oA' + sj, none⟩ = some (.bool bb) ∧ (w0'.setCell ⟨gB, 2, none⟩ u).cell? ⟨w.heap.size + 1 + 1, bitN ba * 2 + bitN bb, none⟩ = some (.bool bt) from by
                  obtain ⟨k1, k2, k3, k4, k5, k6, k7⟩ := HKg.out wx w0' hb hg
                  exact ⟨(World.cell?_setCell_other _ _ _ _ (by simp only [ne_eq, Addr.mk.injEq]; omega)).trans k1, (World.cell?_setCell_other _ _ _ _ (by simp only [ne_eq, Addr.mk.injEq]; omega)).trans k2, (World.cell?_setCell_other _ _ _ _ (by simp only [ne_eq, Addr.mk.injEq]; omega)).trans k3, (World.cell?_setCell_other _ _ _ _ (by simp only [ne_eq, Addr.mk.injEq]; omega)).trans k4, (World.cell?_setCell_other _ _ _ _ (by simp only [ne_eq, Addr.mk.injEq]; omega)).trans k5, (World.cell?_setCell_other _ _ _ _ (by simp only [ne_eq, Addr.mk.injEq]; omega)).trans k6, (World.cell?_setCell_other _ _ _ _ (by simp only [ne_eq, Addr.mk.injEq]; omega)).trans k7⟩))
                clear b2 b2' b5 b6 b7 x0 x1 hBq a5 a6 a7 hvlo hne hneS
                refine wp_region_held_drew (S := (fun w' => w'.cell? ⟨w.heap.size, 2, none⟩ = some (.slice (some ⟨bA, oA, none⟩) rows.length ac) ∧ w'.cell? ⟨w.heap.size + 1, 2, none⟩ = some (.slice (some ⟨bA', oA', none⟩) rows'.length ac') ∧ w'.cell? ⟨gS, k * 3, none⟩ = some (.int .i64 (si : Int)) ∧ w'.cell? ⟨gS, k * 3 + 1, none⟩ = some (.int .i64 (sj : Int)) ∧ w'.cell? ⟨bA, oA + si, none⟩ = some (.bool ba) ∧ w'.cell? ⟨bA', oA' + sj, none⟩ = some (.bool bb) ∧ w'.cell? ⟨w.heap.size + 1 + 1, bitN ba * 2 + bitN bb, none⟩ = some (.bool bt))) (by kernel_rfl) (HKp.out _ hr0.drew) (fun hHeld => ?_)
                refine take_d (i := 0) (d := some 97) (v := ?_) rfl rfl (by kernel_rfl) (by kernel_rfl) (by kernel_rfl) (fun _ _ _ h => h) (Or.inl ⟨by first | rfl | (simp [*, Region.wanted, yielded]), ?hym1⟩) (by assumption) ?restm1
                case hym1 => (intro w hSw; (try dsimp only at hSw); go_simp <;> with_reducible rfl)
                try simp only [Act.put, List.setIfInBounds_toArray, List.set_cons_zero, List.set_cons_succ]
                refine take_d (i := 2) (d := some 99) (v := ?_) rfl rfl (by kernel_rfl) (by kernel_rfl) (by kernel_rfl) (fun _ _ _ h => h) (Or.inl ⟨by first | rfl | (simp [*, Region.wanted, yielded]), ?hym2⟩) (by assumption) ?restm2
                case hym2 => (intro w hSw; (try dsimp only at hSw); go_simp <;> with_reducible rfl)
                try simp only [Act.put, List.setIfInBounds_toArray, List.set_cons_zero, List.set_cons_succ]
                refine take_d (i := 3) (d := some 100) (v := ?_) rfl rfl (by kernel_rfl) (by kernel_rfl) (by kernel_rfl) (fun _ _ _ h => h) (Or.inl ⟨by first | rfl | (simp [*, Region.wanted, yielded]), ?hym3⟩) (by assumption) ?restm3
                case hym3 => (intro w hSw; (try dsimp only at hSw); go_simp <;> with_reducible rfl)
                try simp only [Act.put, List.setIfInBounds_toArray, List.set_cons_zero, List.set_cons_succ]
                refine take_d (i := 4) (d := some 101) (v := ?_) rfl rfl (by kernel_rfl) (by kernel_rfl) (by kernel_rfl) (fun _ _ _ h => h) (Or.inl ⟨by first | rfl | (simp [*, Region.wanted, yielded]), ?hym4⟩) (by assumption) ?restm4
                case hym4 => (intro w hSw; (try dsimp only at hSw); go_simp <;> with_reducible rfl)
                try simp only [Act.put, List.setIfInBounds_toArray, List.set_cons_zero, List.set_cons_succ]
                refine take_d (i := 5) (d := some 102) (v := ?_) rfl rfl (by kernel_rfl) (by kernel_rfl) (by kernel_rfl) (fun _ _ _ h => h) (Or.inl ⟨by first | rfl | (simp [*, Region.wanted, yielded]), ?hym5⟩) (by assumption) ?restm5
                case hym5 => (intro w hSw; (try dsimp only at hSw); go_simp <;> with_reducible rfl)
                try simp only [Act.put, List.setIfInBounds_toArray, List.set_cons_zero, List.set_cons_succ]
                refine take_d (i := 6) (d := some 103) (v := ?_) rfl rfl (by kernel_rfl) (by kernel_rfl) (by kernel_rfl) (fun _ _ _ h => h) (Or.inl ⟨by first | rfl | (simp [*, Region.wanted, yielded]), ?hym6⟩) (by assumption) ?restm6
                case hym6 => (intro w hSw; (try dsimp only at hSw); go_simp <;> with_reducible rfl)
                try simp only [Act.put, List.setIfInBounds_toArray, List.set_cons_zero, List.set_cons_succ]
                refine take_d (i := 7) (d := some 104) (v := ?_) rfl rfl (by kernel_rfl) (by kernel_rfl) (by kernel_rfl) (fun _ _ _ h => h) (Or.inl ⟨by first | rfl | (simp [*, Region.wanted, yielded]), ?hym7⟩) (by assumption) ?restm7
                case hym7 => (intro w hSw; (try dsimp only at hSw); go_simp <;> with_reducible rfl)
                try simp only [Act.put, List.setIfInBounds_toArray, List.set_cons_zero, List.set_cons_succ]
                refine take_d (i := 8) (d := some 105) (v := ?_) rfl rfl (by kernel_rfl) (by kernel_rfl) (by kernel_rfl) (fun _ _ _ h => h) (Or.inl ⟨by first | rfl | (simp [*, Region.wanted, yielded]), ?hym8⟩) (by assumption) ?restm8
                case hym8 => (intro w hSw; (try dsimp only at hSw); go_simp <;> with_reducible rfl)
                try simp only [Act.put, List.setIfInBounds_toArray, List.set_cons_zero, List.set_cons_succ]
                refine take_d (i := 9) (d := some 106) (v := ?_) rfl rfl (by kernel_rfl) (by kernel_rfl) (by kernel_rfl) (fun _ _ _ h => h) (Or.inl ⟨by first | rfl | (simp [*, Region.wanted, yielded]), ?hym9⟩) (by assumption) ?restm9
                case hym9 => (intro w hSw; (try dsimp only at hSw); go_simp <;> with_reducible rfl)
                try simp only [Act.put, List.setIfInBounds_toArray, List.set_cons_zero, List.set_cons_succ]
                refine take_d (i := 10) (d := some 107) (v := ?_) rfl rfl (by kernel_rfl) (by kernel_rfl) (by kernel_rfl) (fun _ _ _ h => h) (Or.inl ⟨by first | rfl | (simp [*, Region.wanted, yielded]), ?hym10⟩) (by assumption) ?restm10
                case hym10 => (intro w hSw; (try dsimp only at hSw); go_simp <;> with_reducible rfl)
                try simp only [Act.put, List.setIfInBounds_toArray, List.set_cons_zero, List.set_cons_succ]
                refine take_d (i := 12) (d := some 109) (v := ?_) rfl rfl (by kernel_rfl) (by kernel_rfl) (by kernel_rfl) (fun _ _ _ h => h) (Or.inl ⟨by first | rfl | (simp [*, Region.wanted, yielded]), ?hym11⟩) (by assumption) ?restm11
                case hym11 => (intro w hSw; (try dsimp only at hSw); go_simp <;> with_reducible rfl)
                try simp only [Act.put, List.setIfInBounds_toArray, List.set_cons_zero, List.set_cons_succ]
                refine take_d (i := 13) (d := some 110) (v := ?_) rfl rfl (by kernel_rfl) (by kernel_rfl) (by kernel_rfl) (fun _ _ _ h => h) (Or.inl ⟨by first | rfl | (simp [*, Region.wanted, yielded]), ?hym12⟩) (by assumption) ?restm12
                case hym12 => (intro w hSw; (try dsimp only at hSw); go_simp <;> with_reducible rfl)
                try simp only [Act.put, List.setIfInBounds_toArray, List.set_cons_zero, List.set_cons_succ]
                refine take_d (i := 14) (d := some 111) (v := ?_) rfl rfl (by kernel_rfl) (by kernel_rfl) (by kernel_rfl) (fun _ _ _ h => h) (Or.inl ⟨by first | rfl | (simp [*, Region.wanted, yielded]), ?hym13⟩) (by assumption) ?restm13
                case hym13 => (intro w hSw; (try dsimp only at hSw); go_simp <;> with_reducible rfl)
                try simp only [Act.put, List.setIfInBounds_toArray, List.set_cons_zero, List.set_cons_succ]
                refine take_d (i := 15) (d := some 112) (v := ?_) rfl rfl (by kernel_rfl) (by kernel_rfl) (by kernel_rfl) (fun _ _ _ h => h) (Or.inl ⟨by first | rfl | (simp [*, Region.wanted, yielded]), ?hym14⟩) (by assumption) ?restm14
                case hym14 => (intro w hSw; (try dsimp only at hSw); go_simp <;> with_reducible rfl)
                try simp only [Act.put, List.setIfInBounds_toArray, List.set_cons_zero, List.set_cons_succ]
                refine take_d (i := 16) (d := some 113) (v := ?_) rfl rfl (by kernel_rfl) (by kernel_rfl) (by kernel_rfl) (fun _ _ _ h => h) (Or.inl ⟨by first | rfl | (simp [*, Region.wanted, yielded]), ?hym15⟩) (by assumption) ?restm15
                case hym15 => (intro w hSw; (try dsimp only at hSw); go_simp <;> with_reducible rfl)
                try simp only [Act.put, List.setIfInBounds_toArray, List.set_cons_zero, List.set_cons_succ]
                refine take_d (i := 17) (d := some 114) (v := ?_) rfl rfl (by kernel_rfl) (by kernel_rfl) (by kernel_rfl) (fun _ _ _ h => h) (Or.inl ⟨by first | rfl | (simp [*, Region.wanted, yielded]), ?hym16⟩) (by assumption) ?restm16
                case hym16 => (intro w hSw; (try dsimp only at hSw); go_simp <;> with_reducible rfl)
                try simp only [Act.put, List.setIfInBounds_toArray, List.set_cons_zero, List.set_cons_succ]
                refine take_d (i := 18) (d := some 115) (v := ?_) rfl rfl (by kernel_rfl) (by kernel_rfl) (by kernel_rfl) (fun _ _ _ h => h) (Or.inl ⟨by first | rfl | (simp [*, Region.wanted, yielded]), ?hym17⟩) (by assumption) ?restm17
                case hym17 => (intro w hSw; (try dsimp only at hSw); go_simp <;> with_reducible rfl)
                try simp only [Act.put, List.setIfInBounds_toArray, List.set_cons_zero, List.set_cons_succ]
                refine take_d (i := 19) (d := some 116) (v := ?_) rfl rfl (by kernel_rfl) (by kernel_rfl) (by kernel_rfl) (fun _ _ _ h => h) (Or.inl ⟨by first | rfl | (simp [*, Region.wanted, yielded]), ?hym18⟩) (by assumption) ?restm18
                case hym18 => (intro w hSw; (try dsimp only at hSw); go_simp <;> with_reducible rfl)
                try simp only [Act.put, List.setIfInBounds_toArray, List.set_cons_zero, List.set_cons_succ]
                refine take_d (i := 20) (d := some 117) (v := ?_) rfl rfl (by kernel_rfl) (by kernel_rfl) (by kernel_rfl) (fun _ _ _ h => h) (Or.inl ⟨by first | rfl | (simp [*, Region.wanted, yielded]), ?hym19⟩) (by assumption) ?restm19
                case hym19 => (intro w hSw; (try dsimp only at hSw); go_simp <;> with_reducible rfl)
                try simp only [Act.put, List.setIfInBounds_toArray, List.set_cons_zero, List.set_cons_succ]
                refine wpAnyH_ready (rs := [1, 11]) (by kernel_rfl) (by simp) ?_
                refine AllReadyH.cons (o := _) rfl (fun K hK => ?_) (AllReadyH.cons (o := _) rfl (fun K hK => ?_) AllReadyH.nil)
                · go_simp
                  go_wp2_with fail
                  refine hK.out _ _ (HKp.out _ (by repeat (first | exact hr0 | apply Below.drew | (refine Below.alloc ?_ (by first | exact Below.size (by assumption) | omega | (simp; done) | (simp; omega)) _)))) (fun hHeld => ?_)
                  clear hK K
                  try simp only [Act.put, List.setIfInBounds_toArray, List.set_cons_zero, List.set_cons_succ]
                  refine wpAnyH_ready (rs := [11]) (by kernel_rfl) (by simp) ?_
                  refine AllReadyH.cons (o := _) rfl (fun K hK => ?_) AllReadyH.nil
                  go_simp
                  refine (rBit_any ba _).mono ?_
                  rintro e8 w8 ⟨hw8, rfl⟩
                  subst hw8
                  go_wp2_with fail
                  refine hK.out _ _ (HKp.out _ hr0.drew) (fun hHeld => ?_)
                  clear hK K
                  try simp only [Act.put, List.setIfInBounds_toArray, List.set_cons_zero, List.set_cons_succ]
                  refine take_d (i := 22) (d := some 119) (v := ?_) rfl rfl (by kernel_rfl) (by kernel_rfl) (by kernel_rfl) (fun _ _ _ h => h) (Or.inl ⟨by first | rfl | (simp [*, Region.wanted, yielded]), ?hym20⟩) (by assumption) ?restm20
                  case hym20 => (intro w hSw; (try dsimp only at hSw); go_simp <;> with_reducible rfl)
                  try simp only [Act.put, List.setIfInBounds_toArray, List.set_cons_zero, List.set_cons_succ]
                  refine wpAnyH_ready (rs := [21]) (by kernel_rfl) (by simp) ?_
                  refine AllReadyH.cons (o := _) rfl (fun K hK => ?_) AllReadyH.nil
                  go_simp
                  refine (rBit_any bb _).mono ?_
                  rintro e8 w8 ⟨hw8, rfl⟩
                  subst hw8
                  go_wp2_with fail
                  refine hK.out _ _ (HKp.out _ hr0.drew) (fun hHeld => ?_)
                  clear hK K
                  try simp only [Act.put, List.setIfInBounds_toArray, List.set_cons_zero, List.set_cons_succ]
                  refine take_d (i := 23) (d := some 120) (v := ?_) rfl rfl (by kernel_rfl) (by kernel_rfl) (by kernel_rfl) (fun _ _ _ h => h) (Or.inl ⟨by first | rfl | (simp [*, Region.wanted, yielded]), ?hym21⟩) (by assumption) ?restm21
                  case hym21 => (intro w hSw; (try dsimp only at hSw); go_simp <;> with_reducible rfl)
                  try simp only [Act.put, List.setIfInBounds_toArray, List.set_cons_zero, List.set_cons_succ]
                  refine take_d (i := 24) (d := some 121) (v := ?_) rfl rfl (by kernel_rfl) (by kernel_rfl) (by kernel_rfl) (fun _ _ _ h => h) (Or.inl ⟨by first | rfl | (simp [*, Region.wanted, yielded]), ?hym22⟩) (by assumption) ?restm22
                  case hym22 => (intro w hSw; (try dsimp only at hSw); go_simp <;> with_reducible rfl)
                  try simp only [Act.put, List.setIfInBounds_toArray, List.set_cons_zero, List.set_cons_succ]
                  refine wpAnyH_ready (rs := [25]) (by kernel_rfl) (by simp) ?_
                  refine AllReadyH.cons (o := _) rfl (fun K hK => ?_) AllReadyH.nil
                  go_simp
                  go_wp2_with fail
                  refine hK.out _ _ (HKp.out _ (by repeat (first | exact hr0 | apply Below.drew | (refine Below.alloc ?_ (by first | exact Below.size (by assumption) | omega | (simp; done) | (simp; omega)) _)))) (fun hHeld => ?_)
                  clear hK K
                  try simp only [Act.put, List.setIfInBounds_toArray, List.set_cons_zero, List.set_cons_succ]
                  refine wpAnyH_ready (rs := [26]) (by kernel_rfl) (by simp) ?_
                  refine AllReadyH.cons (o := _) rfl (fun K hK => ?_) AllReadyH.nil
                  have p8 : Below wq.heap.size wq wq.drew := hr0.drew
                  have HO8 := hid (HO3.out.below (p8.alloc p8.size (.cells #[.bool bt] 4)))
                  have hA8 := HO8.out.mem.A
                  refine step_append_lies _ rfl _ _ 23 rfl w1.heap.size 4 j3 (.bool false) 1 1 Try.underlying23 hjnf3 hx0 hx1 hx2 rfl (by decide) vA ac2.length (ac2.map Value.bool) (by rfl) (by exact hA8) ⟨wq.drew.heap.size, 0, none⟩ 1 1 [.bool bt] (by rfl) rfl (World.news_of_block (cs := #[.bool bt]) (t := 4) (fr := (0, 0)) (heap_alloc_new wq.drew _)) (by simp [Value.oneCell']) (by decide) (by unfold maxLen; omega) (by omega) (by simp; omega) _ rfl ?_
                  intro gV cV w9 hown9 hgr9 hat9 hlt9
                  have HO9 := hid (HO8.out.pushA hown9 hgr9 (lies_loc (n := ac2.length + 1) (c := cV) hat9))
                  have x9 := (grown_cell hgr9 (cell_lt HO8.out.c2) (HO8.out.f3.2.2.1)).trans HO8.out.c2
                  have f9 := (grown_frozen hgr9 (p := ⟨gB, 2, none⟩) (cell_lt HO8.out.c2) (HO8.out.f3.2.2.1)).trans HO8.out.z2
                  refine hK.out _ _ (HKg.out _ _ (p8.alloc p8.size _) hgr9) (fun hHeld => ?_)
                  clear hK K
                  try simp only [Act.put, List.setIfInBounds_toArray, List.set_cons_zero, List.set_cons_succ]
                  refine take_d (i := 27) (d := some 124) (v := ?_) rfl rfl (by kernel_rfl) (by kernel_rfl) (by kernel_rfl) (fun _ _ _ h => h) (Or.inl ⟨by first | rfl | (simp [*, Region.wanted, yielded]), ?hym23⟩) (by assumption) ?restm23
                  case hym23 => (intro w hSw; (try dsimp only at hSw); go_simp <;> with_reducible rfl)
                  try simp only [Act.put, List.setIfInBounds_toArray, List.set_cons_zero, List.set_cons_succ]
                  refine wpAnyH_ready (rs := [28]) (by kernel_rfl) (by simp) ?_
                  refine AllReadyH.cons (o := _) rfl (fun K hK => ?_) AllReadyH.nil
                  go_simp
                  go_wp2_with fail
                  refine hK.out _ _ (HKs.out _ _ _ (p8.alloc p8.size _) hgr9) (fun hHeld => ?_)
                  clear hK K
                  try simp only [Act.put, List.setIfInBounds_toArray, List.set_cons_zero, List.set_cons_succ]
                  refine wpAnyH_done (by kernel_rfl) ?_ _
                  go_simp
                  clear hown9 hgr9 hat9 hlt9 x9 f9 hA8 hHeld p8
                  go_wp2
                  go_roundg gk'
                  case rel => exact ⟨k + 1, _, _, _, by omega, by go_num, by rw [HRs.out, HAs.out]; exact HO9.out⟩
                  all_goals omega
                · go_simp
                  refine (rBit_any ba _).mono ?_
                  rintro e8 w8 ⟨hw8, rfl⟩
                  subst hw8
                  go_wp2_with fail
                  refine hK.out _ _ (HKp.out _ hr0.drew) (fun hHeld => ?_)
                  clear hK K
                  try simp only [Act.put, List.setIfInBounds_toArray, List.set_cons_zero, List.set_cons_succ]
                  refine take_d (i := 22) (d := some 119) (v := ?_) rfl rfl (by kernel_rfl) (by kernel_rfl) (by kernel_rfl) (fun _ _ _ h => h) (Or.inl ⟨by first | rfl | (simp [*, Region.wanted, yielded]), ?hym24⟩) (by assumption) ?restm24
                  case hym24 => (intro w hSw; (try dsimp only at hSw); go_simp <;> with_reducible rfl)
                  try simp only [Act.put, List.setIfInBounds_toArray, List.set_cons_zero, List.set_cons_succ]
                  refine wpAnyH_ready (rs := [1, 21]) (by kernel_rfl) (by simp) ?_
                  refine AllReadyH.cons (o := _) rfl (fun K hK => ?_) (AllReadyH.cons (o := _) rfl (fun K hK => ?_) AllReadyH.nil)
                  · go_simp
                    go_wp2_with fail
                    refine hK.out _ _ (HKp.out _ (by repeat (first | exact hr0 | apply Below.drew | (refine Below.alloc ?_ (by first | exact Below.size (by assumption) | omega | (simp; done) | (simp; omega)) _)))) (fun hHeld => ?_)
                    clear hK K
                    try simp only [Act.put, List.setIfInBounds_toArray, List.set_cons_zero, List.set_cons_succ]
                    refine wpAnyH_ready (rs := [21]) (by kernel_rfl) (by simp) ?_
                    refine AllReadyH.cons (o := _) rfl (fun K hK => ?_) AllReadyH.nil
                    go_simp
                    refine (rBit_any bb _).mono ?_
                    rintro e8 w8 ⟨hw8, rfl⟩
                    subst hw8
                    go_wp2_with fail
                    refine hK.out _ _ (HKp.out _ hr0.drew) (fun hHeld => ?_)
                    clear hK K
                    try simp only [Act.put, List.setIfInBounds_toArray, List.set_cons_zero, List.set_cons_succ]
                    refine take_d (i := 23) (d := some 120) (v := ?_) rfl rfl (by kernel_rfl) (by kernel_rfl) (by kernel_rfl) (fun _ _ _ h => h) (Or.inl ⟨by first | rfl | (simp [*, Region.wanted, yielded]), ?hym25⟩) (by assumption) ?restm25
                    case hym25 => (intro w hSw; (try dsimp only at hSw); go_simp <;> with_reducible rfl)
                    try simp only [Act.put, List.setIfInBounds_toArray, List.set_cons_zero, List.set_cons_succ]
                    refine take_d (i := 24) (d := some 121) (v := ?_) rfl rfl (by kernel_rfl) (by kernel_rfl) (by kernel_rfl) (fun _ _ _ h => h) (Or.inl ⟨by first | rfl | (simp [*, Region.wanted, yielded]), ?hym26⟩) (by assumption) ?restm26
                    case hym26 => (intro w hSw; (try dsimp only at hSw); go_simp <;> with_reducible rfl)
                    try simp only [Act.put, List.setIfInBounds_toArray, List.set_cons_zero, List.set_cons_succ]
                    refine wpAnyH_ready (rs := [25]) (by kernel_rfl) (by simp) ?_
                    refine AllReadyH.cons (o := _) rfl (fun K hK => ?_) AllReadyH.nil
                    go_simp
                    go_wp2_with fail
                    refine hK.out _ _ (HKp.out _ (by repeat (first | exact hr0 | apply Below.drew | (refine Below.alloc ?_ (by first | exact Below.size (by assumption) | omega | (simp; done) | (simp; omega)) _)))) (fun hHeld => ?_)
                    clear hK K
                    try simp only [Act.put, List.setIfInBounds_toArray, List.set_cons_zero, List.set_cons_succ]
                    refine wpAnyH_ready (rs := [26]) (by kernel_rfl) (by simp) ?_
                    refine AllReadyH.cons (o := _) rfl (fun K hK => ?_) AllReadyH.nil
                    have p8 : Below wq.heap.size wq wq.drew := hr0.drew
                    have HO8 := hid (HO3.out.below (p8.alloc p8.size (.cells #[.bool bt] 4)))
                    have hA8 := HO8.out.mem.A
                    refine step_append_lies _ rfl _ _ 23 rfl w1.heap.size 4 j3 (.bool false) 1 1 Try.underlying23 hjnf3 hx0 hx1 hx2 rfl (by decide) vA ac2.length (ac2.map Value.bool) (by rfl) (by exact hA8) ⟨wq.drew.heap.size, 0, none⟩ 1 1 [.bool bt] (by rfl) rfl (World.news_of_block (cs := #[.bool bt]) (t := 4) (fr := (0, 0)) (heap_alloc_new wq.drew _)) (by simp [Value.oneCell']) (by decide) (by unfold maxLen; omega) (by omega) (by simp; omega) _ rfl ?_
                    intro gV cV w9 hown9 hgr9 hat9 hlt9
                    have HO9 := hid (HO8.out.pushA hown9 hgr9 (lies_loc (n := ac2.length + 1) (c := cV) hat9))
                    have x9 := (grown_cell hgr9 (cell_lt HO8.out.c2) (HO8.out.f3.2.2.1)).trans HO8.out.c2
                    have f9 := (grown_frozen hgr9 (p := ⟨gB, 2, none⟩) (cell_lt HO8.out.c2) (HO8.out.f3.2.2.1)).trans HO8.out.z2
                    refine hK.out _ _ (HKg.out _ _ (p8.alloc p8.size _) hgr9) (fun hHeld => ?_)
                    clear hK K
                    try simp only [Act.put, List.setIfInBounds_toArray, List.set_cons_zero, List.set_cons_succ]
                    refine take_d (i := 27) (d := some 124) (v := ?_) rfl rfl (by kernel_rfl) (by kernel_rfl) (by kernel_rfl) (fun _ _ _ h => h) (Or.inl ⟨by first | rfl | (simp [*, Region.wanted, yielded]), ?hym27⟩) (by assumption) ?restm27
                    case hym27 => (intro w hSw; (try dsimp only at hSw); go_simp <;> with_reducible rfl)
                    try simp only [Act.put, List.setIfInBounds_toArray, List.set_cons_zero, List.set_cons_succ]
                    refine wpAnyH_ready (rs := [28]) (by kernel_rfl) (by simp) ?_
                    refine AllReadyH.cons (o := _) rfl (fun K hK => ?_) AllReadyH.nil
                    go_simp
                    go_wp2_with fail
                    refine hK.out _ _ (HKs.out _ _ _ (p8.alloc p8.size _) hgr9) (fun hHeld => ?_)
                    clear hK K
                    try simp only [Act.put, List.setIfInBounds_toArray, List.set_cons_zero, List.set_cons_succ]
                    refine wpAnyH_done (by kernel_rfl) ?_ _
                    go_simp
                    clear hown9 hgr9 hat9 hlt9 x9 f9 hA8 hHeld p8
                    go_wp2
                    go_roundg gk'
                    case rel => exact ⟨k + 1, _, _, _, by omega, by go_num, by rw [HRs.out, HAs.out]; exact HO9.out⟩
                    all_goals omega
                  · go_simp
                    refine (rBit_any bb _).mono ?_
                    rintro e8 w8 ⟨hw8, rfl⟩
                    subst hw8
                    go_wp2_with fail
                    refine hK.out _ _ (HKp.out _ hr0.drew) (fun hHeld => ?_)
                    clear hK K
                    try simp only [Act.put, List.setIfInBounds_toArray, List.set_cons_zero, List.set_cons_succ]
                    refine take_d (i := 23) (d := some 120) (v := ?_) rfl rfl (by kernel_rfl) (by kernel_rfl) (by kernel_rfl) (fun _ _ _ h => h) (Or.inl ⟨by first | rfl | (simp [*, Region.wanted, yielded]), ?hym28⟩) (by assumption) ?restm28
                    case hym28 => (intro w hSw; (try dsimp only at hSw); go_simp <;> with_reducible rfl)
                    try simp only [Act.put, List.setIfInBounds_toArray, List.set_cons_zero, List.set_cons_succ]
                    refine take_d (i := 24) (d := some 121) (v := ?_) rfl rfl (by kernel_rfl) (by kernel_rfl) (by kernel_rfl) (fun _ _ _ h => h) (Or.inl ⟨by first | rfl | (simp [*, Region.wanted, yielded]), ?hym29⟩) (by assumption) ?restm29
                    case hym29 => (intro w hSw; (try dsimp only at hSw); go_simp <;> with_reducible rfl)
                    try simp only [Act.put, List.setIfInBounds_toArray, List.set_cons_zero, List.set_cons_succ]
                    refine wpAnyH_ready (rs := [1, 25]) (by kernel_rfl) (by simp) ?_
                    refine AllReadyH.cons (o := _) rfl (fun K hK => ?_) (AllReadyH.cons (o := _) rfl (fun K hK => ?_) AllReadyH.nil)
                    · go_simp
                      go_wp2_with fail
                      refine hK.out _ _ (HKp.out _ (by repeat (first | exact hr0 | apply Below.drew | (refine Below.alloc ?_ (by first | exact Below.size (by assumption) | omega | (simp; done) | (simp; omega)) _)))) (fun hHeld => ?_)
                      clear hK K
                      try simp only [Act.put, List.setIfInBounds_toArray, List.set_cons_zero, List.set_cons_succ]
                      refine wpAnyH_ready (rs := [25]) (by kernel_rfl) (by simp) ?_
                      refine AllReadyH.cons (o := _) rfl (fun K hK => ?_) AllReadyH.nil
                      go_simp
                      go_wp2_with fail
                      refine hK.out _ _ (HKp.out _ (by repeat (first | exact hr0 | apply Below.drew | (refine Below.alloc ?_ (by first | exact Below.size (by assumption) | omega | (simp; done) | (simp; omega)) _)))) (fun hHeld => ?_)
                      clear hK K
                      try simp only [Act.put, List.setIfInBounds_toArray, List.set_cons_zero, List.set_cons_succ]
                      refine wpAnyH_ready (rs := [26]) (by kernel_rfl) (by simp) ?_
                      refine AllReadyH.cons (o := _) rfl (fun K hK => ?_) AllReadyH.nil
                      have p8 : Below wq.heap.size wq wq.drew := hr0.drew
                      have HO8 := hid (HO3.out.below (p8.alloc p8.size (.cells #[.bool bt] 4)))
                      have hA8 := HO8.out.mem.A
                      refine step_append_lies _ rfl _ _ 23 rfl w1.heap.size 4 j3 (.bool false) 1 1 Try.underlying23 hjnf3 hx0 hx1 hx2 rfl (by decide) vA ac2.length (ac2.map Value.bool) (by rfl) (by exact hA8) ⟨wq.drew.heap.size, 0, none⟩ 1 1 [.bool bt] (by rfl) rfl (World.news_of_block (cs := #[.bool bt]) (t := 4) (fr := (0, 0)) (heap_alloc_new wq.drew _)) (by simp [Value.oneCell']) (by decide) (by unfold maxLen; omega) (by omega) (by simp; omega) _ rfl ?_
                      intro gV cV w9 hown9 hgr9 hat9 hlt9
                      have HO9 := hid (HO8.out.pushA hown9 hgr9 (lies_loc (n := ac2.length + 1) (c := cV) hat9))
                      have x9 := (grown_cell hgr9 (cell_lt HO8.out.c2) (HO8.out.f3.2.2.1)).trans HO8.out.c2
                      have f9 := (grown_frozen hgr9 (p := ⟨gB, 2, none⟩) (cell_lt HO8.out.c2) (HO8.out.f3.2.2.1)).trans HO8.out.z2
                      refine hK.out _ _ (HKg.out _ _ (p8.alloc p8.size _) hgr9) (fun hHeld => ?_)
                      clear hK K
                      try simp only [Act.put, List.setIfInBounds_toArray, List.set_cons_zero, List.set_cons_succ]
                      refine take_d (i := 27) (d := some 124) (v := ?_) rfl rfl (by kernel_rfl) (by kernel_rfl) (by kernel_rfl) (fun _ _ _ h => h) (Or.inl ⟨by first | rfl | (simp [*, Region.wanted, yielded]), ?hym30⟩) (by assumption) ?restm30
                      case hym30 => (intro w hSw; (try dsimp only at hSw); go_simp <;> with_reducible rfl)
                      try simp only [Act.put, List.setIfInBounds_toArray, List.set_cons_zero, List.set_cons_succ]
                      refine wpAnyH_ready (rs := [28]) (by kernel_rfl) (by simp) ?_
                      refine AllReadyH.cons (o := _) rfl (fun K hK => ?_) AllReadyH.nil
                      go_simp
                      go_wp2_with fail
                      refine hK.out _ _ (HKs.out _ _ _ (p8.alloc p8.size _) hgr9) (fun hHeld => ?_)
                      clear hK K
                      try simp only [Act.put, List.setIfInBounds_toArray, List.set_cons_zero, List.set_cons_succ]
                      refine wpAnyH_done (by kernel_rfl) ?_ _
                      go_simp
                      clear hown9 hgr9 hat9 hlt9 x9 f9 hA8 hHeld p8
                      go_wp2
                      go_roundg gk'
                      case rel => exact ⟨k + 1, _, _, _, by omega, by go_num, by rw [HRs.out, HAs.out]; exact HO9.out⟩
                      all_goals omega
                    · go_simp
                      go_wp2_with fail
                      refine hK.out _ _ (HKp.out _ (by repeat (first | exact hr0 | apply Below.drew | (refine Below.alloc ?_ (by first | exact Below.size (by assumption) | omega | (simp; done) | (simp; omega)) _)))) (fun hHeld => ?_)
                      clear hK K
                      try simp only [Act.put, List.setIfInBounds_toArray, List.set_cons_zero, List.set_cons_succ]
                      refine wpAnyH_ready (rs := [1]) (by kernel_rfl) (by simp) ?_
                      refine AllReadyH.cons (o := _) rfl (fun K hK => ?_) AllReadyH.nil
                      go_simp
                      go_wp2_with fail
                      refine hK.out _ _ (HKp.out _ (by repeat (first | exact hr0 | apply Below.drew | (refine Below.alloc ?_ (by first | exact Below.size (by assumption) | omega | (simp; done) | (simp; omega)) _)))) (fun hHeld => ?_)
                      clear hK K
                      try simp only [Act.put, List.setIfInBounds_toArray, List.set_cons_zero, List.set_cons_succ]
                      refine wpAnyH_ready (rs := [26]) (by kernel_rfl) (by simp) ?_
                      refine AllReadyH.cons (o := _) rfl (fun K hK => ?_) AllReadyH.nil
                      have p8 : Below wq.heap.size wq wq.drew := hr0.drew
                      have HO8 := hid (HO3.out.below (p8.alloc p8.size (.cells #[.bool bt] 4)))
                      have hA8 := HO8.out.mem.A
                      refine step_append_lies _ rfl _ _ 23 rfl w1.heap.size 4 j3 (.bool false) 1 1 Try.underlying23 hjnf3 hx0 hx1 hx2 rfl (by decide) vA ac2.length (ac2.map Value.bool) (by rfl) (by exact hA8) ⟨wq.drew.heap.size, 0, none⟩ 1 1 [.bool bt] (by rfl) rfl (World.news_of_block (cs := #[.bool bt]) (t := 4) (fr := (0, 0)) (heap_alloc_new wq.drew _)) (by simp [Value.oneCell']) (by decide) (by unfold maxLen; omega) (by omega) (by simp; omega) _ rfl ?_
                      intro gV cV w9 hown9 hgr9 hat9 hlt9
                      have HO9 := hid (HO8.out.pushA hown9 hgr9 (lies_loc (n := ac2.length + 1) (c := cV) hat9))
                      have x9 := (grown_cell hgr9 (cell_lt HO8.out.c2) (HO8.out.f3.2.2.1)).trans HO8.out.c2
                      have f9 := (grown_frozen hgr9 (p := ⟨gB, 2, none⟩) (cell_lt HO8.out.c2) (HO8.out.f3.2.2.1)).trans HO8.out.z2
                      refine hK.out _ _ (HKg.out _ _ (p8.alloc p8.size _) hgr9) (fun hHeld => ?_)
                      clear hK K
                      try simp only [Act.put, List.setIfInBounds_toArray, List.set_cons_zero, List.set_cons_succ]
                      refine take_d (i := 27) (d := some 124) (v := ?_) rfl rfl (by kernel_rfl) (by kernel_rfl) (by kernel_rfl) (fun _ _ _ h => h) (Or.inl ⟨by first | rfl | (simp [*, Region.wanted, yielded]), ?hym31⟩) (by assumption) ?restm31
                      case hym31 => (intro w hSw; (try dsimp only at hSw); go_simp <;> with_reducible rfl)
                      try simp only [Act.put, List.setIfInBounds_toArray, List.set_cons_zero, List.set_cons_succ]
                      refine wpAnyH_ready (rs := [28]) (by kernel_rfl) (by simp) ?_
                      refine AllReadyH.cons (o := _) rfl (fun K hK => ?_) AllReadyH.nil
                      go_simp
                      go_wp2_with fail
                      refine hK.out _ _ (HKs.out _ _ _ (p8.alloc p8.size _) hgr9) (fun hHeld => ?_)
                      clear hK K
                      try simp only [Act.put, List.setIfInBounds_toArray, List.set_cons_zero, List.set_cons_succ]
                      refine wpAnyH_done (by kernel_rfl) ?_ _
                      go_simp
                      clear hown9 hgr9 hat9 hlt9 x9 f9 hA8 hHeld p8
                      go_wp2
                      go_roundg gk'
                      case rel => exact ⟨k + 1, _, _, _, by omega, by go_num, by rw [HRs.out, HAs.out]; exact HO9.out⟩
                      all_goals omega
          · obtain rfl : k = sts.length := by omega
            have hHX := HX.out
            rw [List.take_length] at hHX
            have hgm : GoodM n (prRows n rows rows' ix sts) (sts.map (tabA t00 t01 t10 t11 accs accs')) := prod_good HG.out.lo HG.out.hi hpos HIx.out HCl.out
            have hlg : mLang n (prRows n rows rows' ix sts) (sts.map (tabA t00 t01 t10 t11 accs accs')) 0 = langOf n (tw rows rows') (tabA t00 t01 t10 t11 accs accs') (0, 0) := prod_lang HS0.out HIx.out HCl.out
            have hprl : (prRows n rows rows' ix sts).length = sts.length := by unfold prRows; simp
            have hacl : (sts.map (tabA t00 t01 t10 t11 accs accs')).length = sts.length := by simp
            clear HX
            generalize prRows n rows rows' ix sts = rs at *
            generalize sts.map (tabA t00 t01 t10 t11 accs accs') = ac2 at *
            have hn6 := hgm.hi
            obtain ⟨Na5, nc5, Aa5, ac5, hvN, hvA, hMA⟩ := hHX.mem.mach (w' := wr) (fun _ _ => rfl) (by omega) (by omega) (fun r hr => by
              obtain ⟨i, hi, rfl⟩ := List.mem_iff_getElem.1 hr
              have h1 := hgm.row i hi
              rw [List.getElem?_eq_getElem hi, Option.getD_some] at h1
              refine ⟨by omega, fun x hx => ?_⟩
              obtain ⟨c, hc, rfl⟩ := List.mem_iff_getElem.1 hx
              have h2 := hgm.ent i c hi (by omega)
              rw [List.getElem?_eq_getElem hi, Option.getD_some, List.getElem?_eq_getElem hc, Option.getD_some] at h2
              rw [h2.2]
              unfold I64
              omega)
            have HT := rtold_any n nc5 ac5 Na5 Aa5 rs ac2 wr hMA hgm (by omega)
            rw [hlg, hprl] at HT
            unfold machV at HT
            have HT := hid HT
            subst hvN hvA
            have c0 := hHX.c0
            have c1 := hHX.c1
            have c2 := hHX.c2
            rw [hprl] at c1
            rw [hacl] at c2
            have z0 := (HBq.out.cell (cell_lt z0)).trans z0
            have z1 := (HBq.out.cell (cell_lt z1)).trans z1
            have z2 := (HBq.out.cell (cell_lt z2)).trans z2
            have y0 := (HBq.out.frozen (p := ⟨w.heap.size + 1 + 1 + 1, 0, none⟩) hsz).trans y0
            have y1 := (HBq.out.frozen (p := ⟨w.heap.size + 1 + 1 + 1, 1, none⟩) hsz).trans y1
            have y2 := (HBq.out.frozen (p := ⟨w.heap.size + 1 + 1 + 1, 2, none⟩) hsz).trans y2
            have hsz4 : w.heap.size + 1 + 1 + 1 < wr.heap.size := cell_lt z0
            have HB4 := hid (HB2.out.trans (HBq.out.mono HB2.out.size))
            clear hHX hgm hlg hMA m0 m1 m2 n0 n1 n2 a0 a1 a2 a3 hprl hacl
            go_wp2_with fail
            refine HT.out.mono ?_
            rintro e w5 ⟨hb5, i, hF, hans⟩
            have hsz5 : w.heap.size + 1 + 1 + 1 < w5.heap.size := by have := hb5.size; omega
            have z0 := (hb5.cell (cell_lt z0)).trans z0
            have z1 := (hb5.cell (cell_lt z1)).trans z1
            have z2 := (hb5.cell (cell_lt z2)).trans z2
            have y0 := (hb5.frozen (p := ⟨w.heap.size + 1 + 1 + 1, 0, none⟩) hsz4).trans y0
            have y1 := (hb5.frozen (p := ⟨w.heap.size + 1 + 1 + 1, 1, none⟩) hsz4).trans y1
            have y2 := (hb5.frozen (p := ⟨w.heap.size + 1 + 1 + 1, 2, none⟩) hsz4).trans y2
            have HB5 := hid (HB4.out.trans (hb5.mono HB4.out.size))
            have HF := hid hF
            clear hb5 hF HT
            rcases hans with ⟨h64, rfl⟩ | ⟨h64, Na6, nc6, Aa6, ac6, rfl, hM⟩
            · unfold machV
              go_wp2
              have t0 : (((w5.setCell ⟨w.heap.size + 1 + 1 + 1, 0, none⟩ (.int .i64 0)).setCell ⟨w.heap.size + 1 + 1 + 1, 1, none⟩ (.slice none 0 0)).setCell ⟨w.heap.size + 1 + 1 + 1, 2, none⟩ (.slice none 0 0)).cell? ⟨w.heap.size + 1 + 1 + 1, 0, none⟩ = some (.int .i64 0) := by go_simp
              have t1 : (((w5.setCell ⟨w.heap.size + 1 + 1 + 1, 0, none⟩ (.int .i64 0)).setCell ⟨w.heap.size + 1 + 1 + 1, 1, none⟩ (.slice none 0 0)).setCell ⟨w.heap.size + 1 + 1 + 1, 2, none⟩ (.slice none 0 0)).cell? ⟨w.heap.size + 1 + 1 + 1, 1, none⟩ = some (.slice none 0 0) := by go_simp
              have t2 : (((w5.setCell ⟨w.heap.size + 1 + 1 + 1, 0, none⟩ (.int .i64 0)).setCell ⟨w.heap.size + 1 + 1 + 1, 1, none⟩ (.slice none 0 0)).setCell ⟨w.heap.size + 1 + 1 + 1, 2, none⟩ (.slice none 0 0)).cell? ⟨w.heap.size + 1 + 1 + 1, 2, none⟩ = some (.slice none 0 0) := by go_simp
              have HBz := hid (((HB5.out.setCell (p := ⟨w.heap.size + 1 + 1 + 1, 0, none⟩) (by simp; omega) (.int .i64 0)).setCell (p := ⟨w.heap.size + 1 + 1 + 1, 1, none⟩) (by simp; omega) (.slice none 0 0)).setCell (p := ⟨w.heap.size + 1 + 1 + 1, 2, none⟩) (by simp; omega) (.slice none 0 0))
              generalize (((w5.setCell ⟨w.heap.size + 1 + 1 + 1, 0, none⟩ (.int .i64 0)).setCell ⟨w.heap.size + 1 + 1 + 1, 1, none⟩ (.slice none 0 0)).setCell ⟨w.heap.size + 1 + 1 + 1, 2, none⟩ (.slice none 0 0)) = wz at *
              refine bodyPost_ret (v := .tuple #[machV 0 none 0 0 none 0 0, .int .i64 4]) (by simp [machV, results, Try.results89, go_sem, t0, t1, t2]) rfl ⟨HBz.out, .inr ⟨HVz.out, by rw [Int.toNat_natCast]; exact ⟨i, HF.out, .inl ⟨h64, rfl⟩⟩⟩⟩
            · unfold machV
              have HM := hid hM
              clear hM
              go_wp2
              have t0 : (((w5.setCell ⟨w.heap.size + 1 + 1 + 1, 0, none⟩ (.int .i64 (n : Int))).setCell ⟨w.heap.size + 1 + 1 + 1, 1, none⟩ (.slice Na6 i nc6)).setCell ⟨w.heap.size + 1 + 1 + 1, 2, none⟩ (.slice Aa6 i ac6)).cell? ⟨w.heap.size + 1 + 1 + 1, 0, none⟩ = some (.int .i64 (n : Int)) := by go_simp
              have t1 : (((w5.setCell ⟨w.heap.size + 1 + 1 + 1, 0, none⟩ (.int .i64 (n : Int))).setCell ⟨w.heap.size + 1 + 1 + 1, 1, none⟩ (.slice Na6 i nc6)).setCell ⟨w.heap.size + 1 + 1 + 1, 2, none⟩ (.slice Aa6 i ac6)).cell? ⟨w.heap.size + 1 + 1 + 1, 1, none⟩ = some (.slice Na6 i nc6) := by go_simp
              have t2 : (((w5.setCell ⟨w.heap.size + 1 + 1 + 1, 0, none⟩ (.int .i64 (n : Int))).setCell ⟨w.heap.size + 1 + 1 + 1, 1, none⟩ (.slice Na6 i nc6)).setCell ⟨w.heap.size + 1 + 1 + 1, 2, none⟩ (.slice Aa6 i ac6)).cell? ⟨w.heap.size + 1 + 1 + 1, 2, none⟩ = some (.slice Aa6 i ac6) := by go_simp
              have HBz := hid (((HB5.out.setCell (p := ⟨w.heap.size + 1 + 1 + 1, 0, none⟩) (by simp; omega) (.int .i64 (n : Int))).setCell (p := ⟨w.heap.size + 1 + 1 + 1, 1, none⟩) (by simp; omega) (.slice Na6 i nc6)).setCell (p := ⟨w.heap.size + 1 + 1 + 1, 2, none⟩) (by simp; omega) (.slice Aa6 i ac6))
              have HMz := hid ((((HM.out.setCell ⟨w.heap.size + 1 + 1 + 1, 0, none⟩ (.int .i64 (n : Int)) (by simp; omega)).setCell ⟨w.heap.size + 1 + 1 + 1, 1, none⟩ (.slice Na6 i nc6) (by simp; omega)).setCell ⟨w.heap.size + 1 + 1 + 1, 2, none⟩ (.slice Aa6 i ac6) (by simp; omega)).weak (B' := w.heap.size) (by omega))
              generalize (((w5.setCell ⟨w.heap.size + 1 + 1 + 1, 0, none⟩ (.int .i64 (n : Int))).setCell ⟨w.heap.size + 1 + 1 + 1, 1, none⟩ (.slice Na6 i nc6)).setCell ⟨w.heap.size + 1 + 1 + 1, 2, none⟩ (.slice Aa6 i ac6)) = wz at *
              refine bodyPost_ret (v := .tuple #[machV n Na6 i nc6 Aa6 i ac6, .int .i64 0]) (by simp [machV, results, Try.results89, go_sem, t0, t1, t2]) rfl ⟨HBz.out, .inr ⟨HVz.out, by rw [Int.toNat_natCast]; exact ⟨i, HF.out, .inr ⟨h64, Na6, nc6, Aa6, ac6, rfl, HMz.out⟩⟩⟩⟩
  · have hv1 : (twoE L rows accs L' rows' accs' != 0) = true := by simpa using hv
    have HV := hid hv
    clear hv
    generalize hvv : twoE L rows accs L' rows' accs' = v at *
    have HVV := hid hvv
    clear hvv m0 m1 m2 n0 n1 n2 a0 a1 a2 a3
    go_wp2
    have t0 : (((w1.setCell ⟨w.heap.size + 1 + 1 + 1, 0, none⟩ (.int .i64 0)).setCell ⟨w.heap.size + 1 + 1 + 1, 1, none⟩ (.slice none 0 0)).setCell ⟨w.heap.size + 1 + 1 + 1, 2, none⟩ (.slice none 0 0)).cell? ⟨w.heap.size + 1 + 1 + 1, 0, none⟩ = some (.int .i64 0) := by go_simp
    have t1 : (((w1.setCell ⟨w.heap.size + 1 + 1 + 1, 0, none⟩ (.int .i64 0)).setCell ⟨w.heap.size + 1 + 1 + 1, 1, none⟩ (.slice none 0 0)).setCell ⟨w.heap.size + 1 + 1 + 1, 2, none⟩ (.slice none 0 0)).cell? ⟨w.heap.size + 1 + 1 + 1, 1, none⟩ = some (.slice none 0 0) := by go_simp
    have t2 : (((w1.setCell ⟨w.heap.size + 1 + 1 + 1, 0, none⟩ (.int .i64 0)).setCell ⟨w.heap.size + 1 + 1 + 1, 1, none⟩ (.slice none 0 0)).setCell ⟨w.heap.size + 1 + 1 + 1, 2, none⟩ (.slice none 0 0)).cell? ⟨w.heap.size + 1 + 1 + 1, 2, none⟩ = some (.slice none 0 0) := by go_simp
    have HBz := hid (((HB2.out.setCell (p := ⟨w.heap.size + 1 + 1 + 1, 0, none⟩) (by simp; omega) (.int .i64 0)).setCell (p := ⟨w.heap.size + 1 + 1 + 1, 1, none⟩) (by simp; omega) (.slice none 0 0)).setCell (p := ⟨w.heap.size + 1 + 1 + 1, 2, none⟩) (by simp; omega) (.slice none 0 0))
    generalize (((w1.setCell ⟨w.heap.size + 1 + 1 + 1, 0, none⟩ (.int .i64 0)).setCell ⟨w.heap.size + 1 + 1 + 1, 1, none⟩ (.slice none 0 0)).setCell ⟨w.heap.size + 1 + 1 + 1, 2, none⟩ (.slice none 0 0)) = wz at *
    refine bodyPost_ret (v := .tuple #[machV 0 none 0 0 none 0 0, .int .i64 v]) (by simp [machV, results, Try.results89, go_sem, t0, t1, t2]) rfl ⟨HBz.out, .inl ⟨by rw [HVV.out]; exact HV.out, by rw [HVV.out]⟩⟩
end Go.Proofs.Ytkboeldafppicaa
