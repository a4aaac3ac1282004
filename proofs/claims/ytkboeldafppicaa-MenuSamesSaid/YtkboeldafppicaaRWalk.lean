/- The document's walk through two machines: chapter 3. -/
import Derived.Test.YtkboeldafppicaaWkP
import Derived.Test.YtkboeldafppicaaRPair
import Derived.Test.YtkboeldafppicaaStepSrc
import Derived.Test.YtkboeldafppicaaAppend
import Derived.Deep.LoopGhost
import Derived.BigRegion
set_option linter.unusedVariables false
set_option linter.unusedSimpArgs false
namespace Go.Proofs.Ytkboeldafppicaa
open Go.RowKit Go.Maps

theorem at_info : (Try.prog.info? 98).map (fun i => (i.zero, i.size, i.bytes)) = some (some (.agg #[.int .i64 0, .int .i64 0, .slice none 0 0]), 3, 40) := by kernel_rfl
theorem outW_start (w : World) (base : Nat) (hb : base ≤ w.heap.size) : OutW (w.alloc (.cells #[.int .i64 0, .int .i64 0, .slice none 0 0] 98)) base (.slice (some ⟨w.heap.size, 0, none⟩) 1 1) [(0, 0)] [[]] := by
  have h := World.ownsRow_lit (base := base) (e := 98) (size := 3) w #[.int .i64 0, .int .i64 0, .slice none 0 0] 1 hb (by decide) (by simp)
  refine ⟨⟨[.slice none 0 0], by simpa [flatW] using h, rfl, fun i hi => ?_⟩, rfl⟩
  have : i = 0 := by simp at hi; exact hi
  subst this
  exact ⟨none, 0, rfl, Own.nil _ _⟩
set_option maxRecDepth 100000 in
set_option maxHeartbeats 8000000 in
theorem rWalk_any (L nc ac nc' ac' : Nat) (Na Aa Na' Aa' : Option Addr) (ra rb : List (List Int)) (aa ab : List Bool) (acc : Two → Bool) (w : World) (h : MachAt w Na ra Aa aa) (h' : MachAt w Na' rb Aa' ab) (hg : GoodM L ra aa) (hg' : GoodM L rb ab) (h64 : ra.length ≤ 64) (h64' : rb.length ≤ 64) :
    Calls Try.prog 86 #[machV L Na ra.length nc Aa ra.length ac, machV L Na' rb.length nc' Aa' rb.length ac'] w fun e w' => Below w.heap.size w w' ∧ ∃ i v, Full L (tw ra rb) acc (0, 0) i ∧ i ≤ 4096 ∧ e = .returned v ∧ OutW w' w.heap.size v (listTo L (tw ra rb) acc (0, 0) i).1 (wTo L (tw ra rb) acc (0, 0) i) := by
  obtain ⟨i0, hinf, hz0, hz1, hz2⟩ := info_parts int_info
  obtain ⟨j0, hjnf, hy0, hy1, hy2⟩ := info_parts at_info
  have hM : ra.length * rb.length ≤ 4096 := Nat.mul_le_mul h64 h64'
  have HLo := hid (fun i => listTo_ok L (tw ra rb) acc (0, 0) (inT_next hg.cl hg'.cl) (inT_start hg.pos hg'.pos) i)
  have HCl := hid (inT_next (L := L) (ra := ra) (rb := rb) hg.cl hg'.cl)
  have HMb := hid (fun l hn hh => Nat.le_trans (inT_bound (ra := ra) (rb := rb) l hn hh) hM)
  have HG := hid hg
  have HG' := hid hg'
  have hL1 := hg.lo
  have hL6 := hg.hi
  have hb0 : Below w.heap.size w ((w.alloc (amachO L Na ra.length nc Aa ra.length ac)).alloc (amachO L Na' rb.length nc' Aa' rb.length ac')) := ((Below.refl _ _).alloc (Nat.le_refl _) _).alloc (by simp) _
  have HM0 := hid (h.below hb0)
  have HM0' := hid (h'.below hb0)
  have m0 : ((w.alloc (amachO L Na ra.length nc Aa ra.length ac)).alloc (amachO L Na' rb.length nc' Aa' rb.length ac')).cell? ⟨w.heap.size, 0, none⟩ = some (.int .i64 (L : Int)) := by go_simp
  have m1 : ((w.alloc (amachO L Na ra.length nc Aa ra.length ac)).alloc (amachO L Na' rb.length nc' Aa' rb.length ac')).cell? ⟨w.heap.size, 1, none⟩ = some (.slice Na ra.length nc) := by go_simp
  have n1 : ((w.alloc (amachO L Na ra.length nc Aa ra.length ac)).alloc (amachO L Na' rb.length nc' Aa' rb.length ac')).cell? ⟨w.heap.size + 1, 1, none⟩ = some (.slice Na' rb.length nc') := by go_simp
  have hs0 : ((w.alloc (amachO L Na ra.length nc Aa ra.length ac)).alloc (amachO L Na' rb.length nc' Aa' rb.length ac')).heap.size = w.heap.size + 2 := by simp
  clear h h' hg hg'
  unfold machV
  go_enter Try.func86, Try.ntmps86
  go_upto_region 1 with (fail)
  generalize hw0 : (w.alloc (amachO L Na ra.length nc Aa ra.length ac)).alloc (amachO L Na' rb.length nc' Aa' rb.length ac') = w0 at *
  have HB0 := hid hb0
  have HS0 := hid hs0
  clear hw0 hb0 hs0
  have hlt0 : w.heap.size + 1 < w0.heap.size := by have := HS0.out; omega
  have hNM := BMap.made w0 84
  obtain ⟨kl0, hk0⟩ := key_pair2 0 0 (by unfold I64; omega) (by unfold I64; omega)
  obtain ⟨w3, hput, hNM3, hgr3⟩ := hNM.store law_two Try.underlying134 hk0 (by decide)
  have hmm := @run_makeMap Try.prog
  have hbx : Below w0.heap.size w0 (w0.alloc (.map #[] 0)) := (Below.refl _ _).alloc (Nat.le_refl _) _
  have hb3 : Below w0.heap.size w0 w3 := hbx.grown hgr3 (by simp) (fun k hk => by cases hk; exact Nat.le_refl _)
  have hs3 := hgr3.size
  rw [World.size_alloc] at hs3
  have HO := hid (outW_start w3 (w0.heap.size + 1) hs3)
  have HMp := hid (show BMap (w3.alloc (.cells #[.int .i64 0, .int .i64 0, .slice none 0 0] 98)) 84 w0.heap.size ([(0, 0)].map V2) from hNM3.below ((Below.refl _ _).alloc (Nat.le_refl _) _) hNM3.lt)
  have HB3 := hid (hb3.alloc hb3.size (.cells #[.int .i64 0, .int .i64 0, .slice none 0 0] 98))
  clear hNM hNM3 hgr3 hbx hb3
  go_wp2
  clear hput hmm hk0
  go_loopg [6, 7] 4096 (fun gk v i wr => ∃ (k : Nat), k + gk = 4096 ∧ k ≤ (listTo L (tw ra rb) acc (0, 0) k).1.length ∧ i = .int .i64 (k : Int) ∧ Hid (∀ j, j < k → j < (listTo L (tw ra rb) acc (0, 0) j).1.length) ∧ Hid (OutW wr (w0.heap.size + 1) v (listTo L (tw ra rb) acc (0, 0) k).1 (wTo L (tw ra rb) acc (0, 0) k)) ∧ Hid (BMap wr 84 w0.heap.size ((listTo L (tw ra rb) acc (0, 0) k).1.map V2)) ∧ Hid (Below w0.heap.size w0 wr))
  case atStart => exact ⟨0, by omega, Nat.zero_le _, rfl, fun j hj => by omega, HO.out, HMp.out, HB3.out⟩
  case round =>
    clear HO HMp HB3
    obtain ⟨k, hkM, hk, rfl, HJ, HO, HMp, HBw⟩ := hrel
    obtain ⟨hnd, hpd, hpos⟩ := HLo.out k
    have hlen := HMb.out _ hnd hpd
    obtain ⟨gS, cS, hvS, hgS, hcS⟩ := HO.out.cells hpos
    subst hvS
    have HCS := hid hcS
    have HWk := hid (wTo_ok L (tw ra rb) acc (0, 0) k)
    have HSt := hid (show (listTo L (tw ra rb) acc (0, 0) (k + 1)).1 = (rowTo (tw ra rb) ((listTo L (tw ra rb) acc (0, 0) k).1[k]?.getD (0, 0)) (listTo L (tw ra rb) acc (0, 0) k).1 L).1 from rfl)
    have HWt := hid (show wTo L (tw ra rb) acc (0, 0) (k + 1) = wRow (tw ra rb) ((listTo L (tw ra rb) acc (0, 0) k).1[k]?.getD (0, 0)) ((wTo L (tw ra rb) acc (0, 0) k)[k]?.getD []) (listTo L (tw ra rb) acc (0, 0) k).1 (wTo L (tw ra rb) acc (0, 0) k) L from rfl)
    have HJn := hid (show k < (listTo L (tw ra rb) acc (0, 0) k).1.length → ∀ j, j < k + 1 → j < (listTo L (tw ra rb) acc (0, 0) j).1.length from fun hh j hj => by
      by_cases e : j = k
      · subst e; exact hh
      · exact HJ.out j (by omega))
    have HFu := hid (show k = (listTo L (tw ra rb) acc (0, 0) k).1.length → Full L (tw ra rb) acc (0, 0) k from fun hh => ⟨hh, HJ.out⟩)
    have hwl := wTo_len L (tw ra rb) acc (0, 0) k
    clear hcS HJ
    generalize hT : (listTo L (tw ra rb) acc (0, 0) k).1 = sts at *
    generalize hTw : wTo L (tw ra rb) acc (0, 0) k = wds at *
    have HT := hid hT
    have HTw := hid hTw
    have HWl := hid hwl
    clear hT hTw hwl
    by_cases hlt3 : k < sts.length
    · obtain ⟨gk', rfl⟩ : ∃ f, gk = f + 1 := ⟨gk - 1, by omega⟩
      have hsm : sts[k]? = some (sts[k]?.getD (0, 0)) := by rw [List.getElem?_eq_getElem hlt3]; rfl
      have hsP : InT ra rb (sts[k]?.getD (0, 0)) := hpd _ (List.mem_of_getElem? hsm)
      generalize hsd : sts[k]?.getD (0, 0) = s at *
      clear hsd
      have HRo := hid (fun n (hn : n ≤ L) => rowTo_ok (tw ra rb) s sts (Pd := InT ra rb) L (fun c hc => HCl.out _ c hsP hc) hnd hpd n hn)
      obtain ⟨x0, x1, A, cA, x2, hxo⟩ := HCS.out k s hsm
      have HWw := hid (show tRM wds k = wds[k]?.getD [] from rfl)
      rw [← HWw.out] at HWt
      generalize hwd : tRM wds k = wd at *
      have hwd20 : wd.length ≤ k ∧ ∀ x ∈ wd, 0 ≤ x ∧ x < L := by
        have := HWk.out wd (by rw [← hwd]; unfold tRM; rw [List.getElem?_eq_getElem (by have := HWl.out; omega)]; exact List.getElem_mem _)
        exact this
      have hwdl := hwd20.1
      have HWd := hid hwd20.2
      have HWR := hid (fun c (hc : c ≤ L) => wRow_len (tw ra rb) s wd sts wds HWl.out c)
      have HSm := hid hsm
      have HSP := hid hsP
      have HXo := hid hxo
      have hki : (k : Int) < (sts.length : Int) := by omega
      have hk0 : (0 : Int) ≤ (k : Int) := by omega
      have hA : Below wr.heap.size wr (wr.alloc (.cells #[.int .i64 s.1, .int .i64 s.2, .slice A wd.length cA] 98)) := (Below.refl _ _).alloc (Nat.le_refl _) _
      have HO1 := hid (HO.out.below hA)
      have HMp1 := hid (HMp.out.below hA HMp.out.lt)
      have HBw1 := hid (HBw.out.trans (hA.mono HBw.out.size))
      have HXo1 := hid (HXo.out.below hA)
      have z0 : (wr.alloc (.cells #[.int .i64 s.1, .int .i64 s.2, .slice A wd.length cA] 98)).cell? ⟨wr.heap.size, 0, none⟩ = some (.int .i64 s.1) := by go_simp
      have z1 : (wr.alloc (.cells #[.int .i64 s.1, .int .i64 s.2, .slice A wd.length cA] 98)).cell? ⟨wr.heap.size, 1, none⟩ = some (.int .i64 s.2) := by go_simp
      have z2 : (wr.alloc (.cells #[.int .i64 s.1, .int .i64 s.2, .slice A wd.length cA] 98)).cell? ⟨wr.heap.size, 2, none⟩ = some (.slice A wd.length cA) := by go_simp
      have hgx : (Value.slice (some ⟨gS, 0, none⟩) sts.length cS).ownBlock ≠ some wr.heap.size := fun hh => by
        have := (HO.out.lt _ hh).2; omega
      have HGx := hid hgx
      have HJ2 := hid (HJn.out hlt3)
      obtain ⟨si, sj, hss, hsi, hsj⟩ := hsP
      subst hss
      dsimp only at x0 x1 z0 z1
      clear hsm hnd hpd hA hxo hgx hwd HFu hwd20
      go_wp2
      clear x0 x1 x2
      have hgx0 : w0.heap.size < wr.heap.size := HMp.out.lt
      have hgxl : wr.heap.size < (wr.alloc (.cells #[.int .i64 (si : Int), .int .i64 (sj : Int), .slice A wd.length cA] 98)).heap.size := by simp
      generalize hgxn : wr.heap.size = gx at *
      clear hgxn
      go_loopg [6, 9] L (fun g2 v i wq => ∃ (c : Nat), c + g2 = L ∧ i = .int .i64 (c : Int) ∧ Hid (OutW wq (w0.heap.size + 1) v (rowTo (tw ra rb) ((si : Int), (sj : Int)) sts c).1 (wRow (tw ra rb) ((si : Int), (sj : Int)) wd sts wds c)) ∧ Hid (BMap wq 84 w0.heap.size ((rowTo (tw ra rb) ((si : Int), (sj : Int)) sts c).1.map V2)) ∧ Hid (Below w0.heap.size w0 wq) ∧ Hid (Own wq (w0.heap.size + 1) (.slice A wd.length cA) wd) ∧ wq.cell? ⟨gx, 0, none⟩ = some (.int .i64 (si : Int)) ∧ wq.cell? ⟨gx, 1, none⟩ = some (.int .i64 (sj : Int)) ∧ wq.cell? ⟨gx, 2, none⟩ = some (.slice A wd.length cA) ∧ Hid (v.ownBlock ≠ some gx))
      case atStart => exact ⟨0, by omega, rfl, HO1.out, HMp1.out, HBw1.out, HXo1.out, z0, z1, z2, HGx.out⟩
      case round =>
        clear HO1 HMp1 HBw1 HXo1 z0 z1 z2 HGx hgxl
        obtain ⟨c, hc, rfl, HO, HMp, HB, HX, z0, z1, z2, HGx⟩ := hrel
        obtain ⟨hnd, hpd, hpre⟩ := HRo.out c (by omega)
        have hlen1 := HMb.out _ hnd hpd
        have hwr := HWR.out c (by omega)
        by_cases hcL : c < L
        · obtain ⟨g2', rfl⟩ : ∃ f, gk = f + 1 := ⟨gk - 1, by omega⟩
          have hci : (c : Int) < (L : Int) := by omega
          have hc0 : (0 : Int) ≤ (c : Int) := by omega
          obtain ⟨he1, he2⟩ := HG.out.ent si c hsi hcL
          have hrow := HG.out.row si hsi
          obtain ⟨b1, o1, g1, p1, kk, hNa, g3, g4, _⟩ := (HM0.out.below HB.out).row si c hsi (by rw [hrow]; exact hcL)
          rw [he2] at g4
          rw [hrow] at g3
          obtain ⟨he1', he2'⟩ := HG'.out.ent sj c hsj hcL
          have hrow' := HG'.out.row sj hsj
          obtain ⟨b1', o1', g1', p1', kk', hNa', g3', g4', _⟩ := (HM0'.out.below HB.out).row sj c hsj (by rw [hrow']; exact hcL)
          rw [he2'] at g4'
          rw [hrow'] at g3'
          have e0 := (HB.out.cell (cell_lt m0)).trans m0
          have e1 := (HB.out.cell (cell_lt m1)).trans m1
          have f1 := (HB.out.cell (cell_lt n1)).trans n1
          have HNx := hid (show tw ra rb ((si : Int), (sj : Int)) c = ((mN ra si c : Int), (mN rb sj c : Int)) from by unfold tw; simp)
          have HRn := hid (row_step (tw ra rb) ((si : Int), (sj : Int)) wd sts wds c)
          rw [HNx.out] at HRn
          generalize hst1 : (rowTo (tw ra rb) ((si : Int), (sj : Int)) sts c).1 = st1 at *
          generalize hwd1 : wRow (tw ra rb) ((si : Int), (sj : Int)) wd sts wds c = wd1 at *
          have HS1 := hid hst1
          have HW1 := hid hwd1
          have HNd := hid hnd
          have hlt1 : 0 < st1.length := by have := hpre.length_le; omega
          clear hst1 hwd1 hnd hpd hrow hrow' he2 he2' hpre
          subst hNa hNa'
          generalize hqi : mN ra si c = qi at *
          generalize hqj : mN rb sj c = qj at *
          clear hqi hqj
          have hi0 : (0 : Int) ≤ (si : Int) := by omega
          have hi1 : (si : Int) < (ra.length : Int) := by omega
          have hj0 : (0 : Int) ≤ (sj : Int) := by omega
          have hj1 : (sj : Int) < (rb.length : Int) := by omega
          have gxl := cell_lt z0
          have hr0 : Below wr.heap.size wr wr := Below.refl _ _
          have HKp := hid (fun w' (hb : Below wr.heap.size wr w') => (show w'.cell? ⟨gx, 0, none⟩ = some (.int .i64 (si : Int)) ∧ w'.cell? ⟨gx, 1, none⟩ = some (.int .i64 (sj : Int)) ∧ w'.cell? ⟨w.heap.size, 1, none⟩ = some (.slice (some ⟨b1, o1, none⟩) ra.length nc) ∧ w'.cell? ⟨w.heap.size + 1, 1, none⟩ = some (.slice (some ⟨b1', o1', none⟩) rb.length nc') ∧ w'.cell? ⟨b1, o1 + si, none⟩ = some (.slice (some ⟨g1, p1, none⟩) L kk) ∧ w'.cell? ⟨g1, p1 + c, none⟩ = some (.int .i64 (qi : Int)) ∧ w'.cell? ⟨b1', o1' + sj, none⟩ = some (.slice (some ⟨g1', p1', none⟩) L kk') ∧ w'.cell? ⟨g1', p1' + c, none⟩ = some (.int .i64 (qj : Int)) from ⟨(hb.cell (cell_lt z0)).trans z0, (hb.cell (cell_lt z1)).trans z1, (hb.cell (cell_lt e1)).trans e1, (hb.cell (cell_lt f1)).trans f1, (hb.cell (cell_lt g3)).trans g3, (hb.cell (cell_lt g4)).trans g4, (hb.cell (cell_lt g3')).trans g3', (hb.cell (cell_lt g4')).trans g4'⟩))
          go_wp2_with fail
          refine wp_region_held_drew (S := (fun w' => w'.cell? ⟨gx, 0, none⟩ = some (.int .i64 (si : Int)) ∧ w'.cell? ⟨gx, 1, none⟩ = some (.int .i64 (sj : Int)) ∧ w'.cell? ⟨w.heap.size, 1, none⟩ = some (.slice (some ⟨b1, o1, none⟩) ra.length nc) ∧ w'.cell? ⟨w.heap.size + 1, 1, none⟩ = some (.slice (some ⟨b1', o1', none⟩) rb.length nc') ∧ w'.cell? ⟨b1, o1 + si, none⟩ = some (.slice (some ⟨g1, p1, none⟩) L kk) ∧ w'.cell? ⟨g1, p1 + c, none⟩ = some (.int .i64 (qi : Int)) ∧ w'.cell? ⟨b1', o1' + sj, none⟩ = some (.slice (some ⟨g1', p1', none⟩) L kk') ∧ w'.cell? ⟨g1', p1' + c, none⟩ = some (.int .i64 (qj : Int)))) (by kernel_rfl) (HKp.out _ hr0.drew) (fun hHeld => ?_)
          refine take_d (i := 0) (d := some 32) (v := ?_) rfl rfl (by kernel_rfl) (by kernel_rfl) (by kernel_rfl) (fun _ _ _ h => h) (Or.inl ⟨by first | rfl | (simp [*, Region.wanted, yielded]), ?hyq1⟩) (by assumption) ?restq1
          case hyq1 => (intro w hSw; (try dsimp only at hSw); go_simp <;> with_reducible rfl)
          try simp only [Act.put, List.setIfInBounds_toArray, List.set_cons_zero, List.set_cons_succ]
          refine take_d (i := 1) (d := some 33) (v := ?_) rfl rfl (by kernel_rfl) (by kernel_rfl) (by kernel_rfl) (fun _ _ _ h => h) (Or.inl ⟨by first | rfl | (simp [*, Region.wanted, yielded]), ?hyq2⟩) (by assumption) ?restq2
          case hyq2 => (intro w hSw; (try dsimp only at hSw); go_simp <;> with_reducible rfl)
          try simp only [Act.put, List.setIfInBounds_toArray, List.set_cons_zero, List.set_cons_succ]
          refine take_d (i := 2) (d := some 34) (v := ?_) rfl rfl (by kernel_rfl) (by kernel_rfl) (by kernel_rfl) (fun _ _ _ h => h) (Or.inl ⟨by first | rfl | (simp [*, Region.wanted, yielded]), ?hyq3⟩) (by assumption) ?restq3
          case hyq3 => (intro w hSw; (try dsimp only at hSw); go_simp <;> with_reducible rfl)
          try simp only [Act.put, List.setIfInBounds_toArray, List.set_cons_zero, List.set_cons_succ]
          refine take_d (i := 3) (d := some 35) (v := ?_) rfl rfl (by kernel_rfl) (by kernel_rfl) (by kernel_rfl) (fun _ _ _ h => h) (Or.inl ⟨by first | rfl | (simp [*, Region.wanted, yielded]), ?hyq4⟩) (by assumption) ?restq4
          case hyq4 => (intro w hSw; (try dsimp only at hSw); go_simp <;> with_reducible rfl)
          try simp only [Act.put, List.setIfInBounds_toArray, List.set_cons_zero, List.set_cons_succ]
          refine take_d (i := 4) (d := some 36) (v := ?_) rfl rfl (by kernel_rfl) (by kernel_rfl) (by kernel_rfl) (fun _ _ _ h => h) (Or.inl ⟨by first | rfl | (simp [*, Region.wanted, yielded]), ?hyq5⟩) (by assumption) ?restq5
          case hyq5 => (intro w hSw; (try dsimp only at hSw); go_simp <;> with_reducible rfl)
          try simp only [Act.put, List.setIfInBounds_toArray, List.set_cons_zero, List.set_cons_succ]
          refine take_d (i := 5) (d := some 37) (v := ?_) rfl rfl (by kernel_rfl) (by kernel_rfl) (by kernel_rfl) (fun _ _ _ h => h) (Or.inl ⟨by first | rfl | (simp [*, Region.wanted, yielded]), ?hyq6⟩) (by assumption) ?restq6
          case hyq6 => (intro w hSw; (try dsimp only at hSw); go_simp <;> with_reducible rfl)
          try simp only [Act.put, List.setIfInBounds_toArray, List.set_cons_zero, List.set_cons_succ]
          refine take_d (i := 6) (d := some 38) (v := ?_) rfl rfl (by kernel_rfl) (by kernel_rfl) (by kernel_rfl) (fun _ _ _ h => h) (Or.inl ⟨by first | rfl | (simp [*, Region.wanted, yielded]), ?hyq7⟩) (by assumption) ?restq7
          case hyq7 => (intro w hSw; (try dsimp only at hSw); go_simp <;> with_reducible rfl)
          try simp only [Act.put, List.setIfInBounds_toArray, List.set_cons_zero, List.set_cons_succ]
          refine take_d (i := 7) (d := some 39) (v := ?_) rfl rfl (by kernel_rfl) (by kernel_rfl) (by kernel_rfl) (fun _ _ _ h => h) (Or.inl ⟨by first | rfl | (simp [*, Region.wanted, yielded]), ?hyq8⟩) (by assumption) ?restq8
          case hyq8 => (intro w hSw; (try dsimp only at hSw); go_simp <;> with_reducible rfl)
          try simp only [Act.put, List.setIfInBounds_toArray, List.set_cons_zero, List.set_cons_succ]
          refine take_d (i := 8) (d := some 40) (v := ?_) rfl rfl (by kernel_rfl) (by kernel_rfl) (by kernel_rfl) (fun _ _ _ h => h) (Or.inl ⟨by first | rfl | (simp [*, Region.wanted, yielded]), ?hyq9⟩) (by assumption) ?restq9
          case hyq9 => (intro w hSw; (try dsimp only at hSw); go_simp <;> with_reducible rfl)
          try simp only [Act.put, List.setIfInBounds_toArray, List.set_cons_zero, List.set_cons_succ]
          refine take_d (i := 9) (d := some 41) (v := ?_) rfl rfl (by kernel_rfl) (by kernel_rfl) (by kernel_rfl) (fun _ _ _ h => h) (Or.inl ⟨by first | rfl | (simp [*, Region.wanted, yielded]), ?hyq10⟩) (by assumption) ?restq10
          case hyq10 => (intro w hSw; (try dsimp only at hSw); go_simp <;> with_reducible rfl)
          try simp only [Act.put, List.setIfInBounds_toArray, List.set_cons_zero, List.set_cons_succ]
          refine take_d (i := 10) (d := some 42) (v := ?_) rfl rfl (by kernel_rfl) (by kernel_rfl) (by kernel_rfl) (fun _ _ _ h => h) (Or.inl ⟨by first | rfl | (simp [*, Region.wanted, yielded]), ?hyq11⟩) (by assumption) ?restq11
          case hyq11 => (intro w hSw; (try dsimp only at hSw); go_simp <;> with_reducible rfl)
          try simp only [Act.put, List.setIfInBounds_toArray, List.set_cons_zero, List.set_cons_succ]
          refine take_d (i := 11) (d := some 43) (v := ?_) rfl rfl (by kernel_rfl) (by kernel_rfl) (by kernel_rfl) (fun _ _ _ h => h) (Or.inl ⟨by first | rfl | (simp [*, Region.wanted, yielded]), ?hyq12⟩) (by assumption) ?restq12
          case hyq12 => (intro w hSw; (try dsimp only at hSw); go_simp <;> with_reducible rfl)
          try simp only [Act.put, List.setIfInBounds_toArray, List.set_cons_zero, List.set_cons_succ]
          refine take_d (i := 12) (d := some 44) (v := ?_) rfl rfl (by kernel_rfl) (by kernel_rfl) (by kernel_rfl) (fun _ _ _ h => h) (Or.inl ⟨by first | rfl | (simp [*, Region.wanted, yielded]), ?hyq13⟩) (by assumption) ?restq13
          case hyq13 => (intro w hSw; (try dsimp only at hSw); go_simp <;> with_reducible rfl)
          try simp only [Act.put, List.setIfInBounds_toArray, List.set_cons_zero, List.set_cons_succ]
          refine take_d (i := 13) (d := some 45) (v := ?_) rfl rfl (by kernel_rfl) (by kernel_rfl) (by kernel_rfl) (fun _ _ _ h => h) (Or.inl ⟨by first | rfl | (simp [*, Region.wanted, yielded]), ?hyq14⟩) (by assumption) ?restq14
          case hyq14 => (intro w hSw; (try dsimp only at hSw); go_simp <;> with_reducible rfl)
          try simp only [Act.put, List.setIfInBounds_toArray, List.set_cons_zero, List.set_cons_succ]
          refine take_d (i := 14) (d := some 46) (v := ?_) rfl rfl (by kernel_rfl) (by kernel_rfl) (by kernel_rfl) (fun _ _ _ h => h) (Or.inl ⟨by first | rfl | (simp [*, Region.wanted, yielded]), ?hyq15⟩) (by assumption) ?restq15
          case hyq15 => (intro w hSw; (try dsimp only at hSw); go_simp <;> with_reducible rfl)
          try simp only [Act.put, List.setIfInBounds_toArray, List.set_cons_zero, List.set_cons_succ]
          refine take_d (i := 15) (d := some 47) (v := ?_) rfl rfl (by kernel_rfl) (by kernel_rfl) (by kernel_rfl) (fun _ _ _ h => h) (Or.inl ⟨by first | rfl | (simp [*, Region.wanted, yielded]), ?hyq16⟩) (by assumption) ?restq16
          case hyq16 => (intro w hSw; (try dsimp only at hSw); go_simp <;> with_reducible rfl)
          try simp only [Act.put, List.setIfInBounds_toArray, List.set_cons_zero, List.set_cons_succ]
          refine take_d (i := 16) (d := some 48) (v := ?_) rfl rfl (by kernel_rfl) (by kernel_rfl) (by kernel_rfl) (fun _ _ _ h => h) (Or.inl ⟨by first | rfl | (simp [*, Region.wanted, yielded]), ?hyq17⟩) (by assumption) ?restq17
          case hyq17 => (intro w hSw; (try dsimp only at hSw); go_simp <;> with_reducible rfl)
          try simp only [Act.put, List.setIfInBounds_toArray, List.set_cons_zero, List.set_cons_succ]
          refine take_d (i := 17) (d := some 49) (v := ?_) rfl rfl (by kernel_rfl) (by kernel_rfl) (by kernel_rfl) (fun _ _ _ h => h) (Or.inl ⟨by first | rfl | (simp [*, Region.wanted, yielded]), ?hyq18⟩) (by assumption) ?restq18
          case hyq18 => (intro w hSw; (try dsimp only at hSw); go_simp <;> with_reducible rfl)
          try simp only [Act.put, List.setIfInBounds_toArray, List.set_cons_zero, List.set_cons_succ]
          refine take_d (i := 18) (d := some 50) (v := ?_) rfl rfl (by kernel_rfl) (by kernel_rfl) (by kernel_rfl) (fun _ _ _ h => h) (Or.inl ⟨by first | rfl | (simp [*, Region.wanted, yielded]), ?hyq19⟩) (by assumption) ?restq19
          case hyq19 => (intro w hSw; (try dsimp only at hSw); go_simp <;> with_reducible rfl)
          try simp only [Act.put, List.setIfInBounds_toArray, List.set_cons_zero, List.set_cons_succ]
          refine wpAnyH_ready (rs := [19]) (by kernel_rfl) (by simp) ?_
          refine AllReadyH.cons (o := _) rfl (fun K hK => ?_) AllReadyH.nil
          go_simp
          go_wp2_with fail
          refine hK.out _ _ (HKp.out _ (by exact (hr0.drew.alloc (Nat.le_refl _) _))) (fun hHeld => ?_)
          clear hK K
          try simp only [Act.put, List.setIfInBounds_toArray, List.set_cons_zero, List.set_cons_succ]
          refine wpAnyH_ready (rs := [20]) (by kernel_rfl) (by simp) ?_
          refine AllReadyH.cons (o := _) rfl (fun K hK => ?_) AllReadyH.nil
          go_simp
          go_wp2_with fail
          refine hK.out _ _ (HKp.out _ (by repeat (first | exact hr0 | apply Below.drew | (refine Below.alloc ?_ (by first | omega | (simp; done) | (simp; omega)) _) | (refine Below.setCell ?_ (by first | omega | (simp; done) | (simp; omega)) _)))) (fun hHeld => ?_)
          clear hK K
          try simp only [Act.put, List.setIfInBounds_toArray, List.set_cons_zero, List.set_cons_succ]
          refine wpAnyH_done (by kernel_rfl) ?_ _
          go_simp
          have hAz : Below wr.heap.size wr (wr.alloc (.cells #[.int .i64 (qi : Int), .int .i64 (qj : Int), .slice none 0 0] 98)).drew := ((Below.refl _ _).alloc (Nat.le_refl _) _).drew
          have HO1 := hid (HO.out.below hAz)
          have HMp1 := hid (HMp.out.below hAz HMp.out.lt)
          have HB1 := hid (HB.out.trans (hAz.mono HB.out.size))
          have HX1 := hid (HX.out.below hAz)
          have z0 := (hAz.cell (cell_lt z0)).trans z0
          have z1 := (hAz.cell (cell_lt z1)).trans z1
          have z2 := (hAz.cell (cell_lt z2)).trans z2
          have y0 : (wr.alloc (.cells #[.int .i64 (qi : Int), .int .i64 (qj : Int), .slice none 0 0] 98)).drew.cell? ⟨wr.heap.size, 0, none⟩ = some (.int .i64 (qi : Int)) := by go_simp
          have y1 : (wr.alloc (.cells #[.int .i64 (qi : Int), .int .i64 (qj : Int), .slice none 0 0] 98)).drew.cell? ⟨wr.heap.size, 1, none⟩ = some (.int .i64 (qj : Int)) := by go_simp
          have y2 : (wr.alloc (.cells #[.int .i64 (qi : Int), .int .i64 (qj : Int), .slice none 0 0] 98)).drew.cell? ⟨wr.heap.size, 2, none⟩ = some (.slice none 0 0) := by go_simp
          have yf : (wr.alloc (.cells #[.int .i64 (qi : Int), .int .i64 (qj : Int), .slice none 0 0] 98)).drew.frozen? ⟨wr.heap.size, 2, none⟩ = false := by go_simp
          have yk : ∃ cs fr, (wr.alloc (.cells #[.int .i64 (qi : Int), .int .i64 (qj : Int), .slice none 0 0] 98)).drew.heap[wr.heap.size]? = some (.cells cs 98 fr) := ⟨_, _, heap_alloc_new wr _⟩
          have HYk := hid yk
          have HOy := hid (show u6.ownBlock ≠ some wr.heap.size from fun hh => by have := (HO.out.lt _ hh).2; omega)
          have hgyx : gx < wr.heap.size := gxl
          have hgy0 : w0.heap.size < wr.heap.size := by have := HB.out.size; omega
          clear hAz e0 e1 f1 g3 g4 g3' g4' gxl yk HO HMp HB HX hr0 HKp hHeld
          generalize (wr.alloc (.cells #[.int .i64 (qi : Int), .int .i64 (qj : Int), .slice none 0 0] 98)).drew = wy at *
          generalize wr.heap.size = gy at *
          obtain ⟨kl, hkey⟩ := key_pair2 (qi : Int) (qj : Int) (by unfold I64; omega) (by unfold I64; omega)
          have hmemV : ((qi : Int), (qj : Int)) ∈ st1 ↔ (Value.agg #[.int .i64 (qi : Int), .int .i64 (qj : Int)]) ∈ st1.map V2 := by
            rw [List.mem_map]
            exact ⟨fun hh => ⟨_, hh, rfl⟩, fun ⟨t, h1, h2⟩ => by
              have := V2_inj t ((qi : Int), (qj : Int)) h2
              rw [← this]; exact h1⟩
          by_cases hin : ((qi : Int), (qj : Int)) ∈ st1
          · have hlk := HMp1.out.look law_two Try.underlying134 hkey true (by simp [← hmemV, hin])
            obtain ⟨hr1, hr2⟩ := HRn.out.1 hin
            have HR1 := hid hr1
            have HR2 := hid hr2
            clear hin hmemV hr1 hr2 hkey
            go_wp2
            go_roundg g2'
            case rel => exact ⟨c + 1, by omega, by go_num, by rw [HR1.out, HR2.out]; exact HO1.out, by rw [HR1.out]; exact HMp1.out, HB1.out, HX1.out, z0, z1, z2, HGx.out⟩
            all_goals omega
          · have hlk := HMp1.out.look law_two Try.underlying134 hkey false (by simp [← hmemV, hin])
            obtain ⟨hr1, hr2⟩ := HRn.out.2 hin
            have HR1 := hid hr1
            have HR2 := hid hr2
            obtain ⟨w5, hput, hNM5, hgr5⟩ := HMp1.out.store law_two Try.underlying134 hkey (by rw [List.length_map]; unfold maxLen; omega)
            have hne : ∀ q, w0.heap.size < q → (some w0.heap.size : Option Nat) ≠ some q := fun q hq e => by have := Option.some.inj e; omega
            have HM5 := hid (show BMap w5 84 w0.heap.size ((st1 ++ [((qi : Int), (qj : Int))]).map V2) from by rw [List.map_append]; exact hNM5)
            have HO5 := hid (HO1.out.grown hgr5 (Nat.lt_succ_self _))
            have HX5 := hid (show Own w5 (w0.heap.size + 1) (.slice A wd.length cA) wd from kept_or HX1.out hgr5 (fun q hq e2 => by
              have := (HX1.out.lt q e2).1
              have := Option.some.inj hq
              omega))
            have HB5 := hid (HB1.out.grown hgr5 HB1.out.size (fun q hq => by cases hq; exact Nat.le_refl _))
            have z0 := (grown_cell hgr5 (p := ⟨gx, 0, none⟩) (cell_lt z0) (hne gx (by omega))).trans z0
            have z1 := (grown_cell hgr5 (p := ⟨gx, 1, none⟩) (cell_lt z1) (hne gx (by omega))).trans z1
            have z2 := (grown_cell hgr5 (p := ⟨gx, 2, none⟩) (cell_lt z2) (hne gx (by omega))).trans z2
            have y0 := (grown_cell hgr5 (p := ⟨gy, 0, none⟩) (cell_lt y0) (hne gy (by omega))).trans y0
            have y1 := (grown_cell hgr5 (p := ⟨gy, 1, none⟩) (cell_lt y1) (hne gy (by omega))).trans y1
            have yf := (grown_frozen hgr5 (p := ⟨gy, 2, none⟩) (cell_lt y2) (hne gy (by omega))).trans yf
            have y2 := (grown_cell hgr5 (p := ⟨gy, 2, none⟩) (cell_lt y2) (hne gy (by omega))).trans y2
            have HYk5 := hid (show ∃ cs fr, w5.heap[gy]? = some (.cells cs 98 fr) from by
              obtain ⟨cs, fr, hk⟩ := HYk.out
              exact ⟨cs, fr, by rw [hgr5.block gy (Array.getElem?_eq_some_iff.1 hk).1 (fun e => hne gy (by omega) e.symm)]; exact hk⟩)
            have HX5i : ∃ A' c', (Value.slice A wd.length cA) = .slice A' wd.length c' ∧ Ints w5 A' wd := HX5.out.ints (by omega) (fun x hx => by
              have := HWd.out x hx
              omega)
            obtain ⟨A', c', hAe, hI5⟩ := HX5i
            simp only [Value.slice.injEq, true_and] at hAe
            obtain ⟨rfl, rfl⟩ := hAe
            have hA5 : Below w5.heap.size w5 (w5.alloc (.cells #[] 3)) := (Below.refl _ _).alloc (Nat.le_refl _) _
            have ly : gy < w5.heap.size := cell_lt y0
            have lz : gx < w5.heap.size := cell_lt z0
            have hbs5 : w0.heap.size + 1 ≤ w5.heap.size := by omega
            have hE : (w5.alloc (.cells #[] 3)).ownsRow w5.heap.size 3 1 (.slice (some ⟨w5.heap.size, 0, none⟩) 0 0) 0 [] := by simpa using (World.ownsRow_lit (base := w5.heap.size) (e := 3) (size := 1) w5 #[] 0 (Nat.le_refl _) (by decide) (by simp))
            have hSr := src_intsM (hI5.below hA5)
            have HA5 := hid hA5
            have z2a := (hA5.cell (cell_lt z2)).trans z2
            clear hin hmemV hr1 hr2 hNM5 hgr5 HO1 HMp1 HB1 HX1 HYk hne hI5 hA5
            go_wp2_with (at_builtin; refine wpList_append_src rfl _ _ 26 rfl w5.heap.size 3 i0 (.int .i64 0) 1 8 Try.underlying26 hinf hz0 hz1 hz2 rfl (by decide) (.slice (some ⟨w5.heap.size, 0, none⟩) 0 0) 0 [] rfl hE A wd.length cA (wd.map (Value.int .i64)) rfl (by simp) hSr (ints_oneM wd) (by unfold maxLen; omega) (by omega) (by simp) ?_)
            intro v6 w6 hown6 hgr6
            have HO6 := hid (show Own w6 w5.heap.size v6 wd by unfold Own; simpa using hown6)
            have HB6 := hid (HA5.out.grown hgr6 (by simp) (fun q hq => by have := Option.some.inj (show some w5.heap.size = some q from hq); omega))
            have hbw6 := HB6.out.size
            have hown := HO6.out
            unfold Own at hown
            clear hown6 hgr6 hE hSr z2a HA5
            go_wp2_with (at_builtin; refine wpList_append_own_at _ rfl _ _ 26 rfl w5.heap.size 3 i0 (.int .i64 0) 1 8 Try.underlying26 hinf hz0 hz1 hz2 rfl (by decide) v6 wd.length (wd.map (Value.int .i64)) rfl (hown.alloc _) ⟨w6.heap.size, 0, none⟩ 1 1 [.int .i64 (c : Int)] rfl rfl ?c1 ?c2 ?c3 ?c4 ?c5 ?_)
            case c1 => exact cell_one_new _ _ _
            case c2 => simp [Value.oneCell']
            case c3 => unfold maxLen; omega
            case c4 => omega
            case c5 => simp; omega
            intro v7 w7 hown7 hgr7 hnil7 hat7
            have hO7 : Own w7 w5.heap.size v7 (wd ++ [(c : Int)]) := by
              unfold Own; rw [List.length_append, List.map_append]; exact hown7
            have hb7 : Below w5.heap.size w5 w7 := (HB6.out.alloc hbw6 (.cells #[.int .i64 (c : Int)] 3)).grown hgr7 (by simp; omega) (fun q hq => (hown.lt q hq).1)
            obtain ⟨A7, c7, hv7⟩ : ∃ A c', v7 = .slice A (wd.length + 1) c' := by
              rcases hown7.2 with ⟨hv, hn⟩ | ⟨g, c, cur, hv, _⟩
              · omega
              · exact ⟨_, _, hv⟩
            subst hv7
            have HO7 := hid hO7
            have HW7 := hid (HO5.out.below hb7)
            have HM7 := hid (HM5.out.below hb7 HM5.out.lt)
            have HB7 := hid (HB5.out.trans (hb7.mono HB5.out.size))
            have HX7 := hid (HX5.out.below hb7)
            have z0 := (hb7.cell (cell_lt z0)).trans z0
            have z1 := (hb7.cell (cell_lt z1)).trans z1
            have z2 := (hb7.cell (cell_lt z2)).trans z2
            have y0 := (hb7.cell (cell_lt y0)).trans y0
            have y1 := (hb7.cell (cell_lt y1)).trans y1
            have yf := (hb7.frozen (p := ⟨gy, 2, none⟩) ly).trans yf
            have y2 := (hb7.cell (cell_lt y2)).trans y2
            obtain ⟨ycs, yfr, hyk⟩ := HYk5.out
            have hyk7 : w7.heap[gy]? = some (.cells ycs 98 yfr) := by rw [hb7.block gy ly]; exact hyk
            have HW8 := hid (HW7.out.box (o := 2) hyk7 HOy.out (.slice A7 (wd.length + 1) c7))
            have keep8 : ∀ {b : Nat} {x : List Int} {y : Value}, Own w7 b y x → Own (w7.setCell ⟨gy, 2, none⟩ (.slice A7 (wd.length + 1) c7)) b y x := fun hx => kept_or hx (setCell_grown _ _ _) (fun q hq e2 => by
              cases hq
              exact own_ne hx hyk7 (by decide) e2)
            have HX8 := hid (keep8 HX7.out)
            have HO8 := hid (show Own (w7.setCell ⟨gy, 2, none⟩ (.slice A7 (wd.length + 1) c7)) (w0.heap.size + 1) (.slice A7 (wd.length + 1) c7) (wd ++ [(c : Int)]) from own_weak (keep8 HO7.out) hbs5)
            have HM8 := hid (HM7.out.block (w' := w7.setCell ⟨gy, 2, none⟩ (.slice A7 (wd.length + 1) c7)) (Below.heap_setCell _ _ _ _ (by dsimp only; omega)))
            have HB8 := hid (HB7.out.setCell (p := ⟨gy, 2, none⟩) (by dsimp only; omega) (.slice A7 (wd.length + 1) c7))
            have z0 := (World.cell?_setCell_other (w := w7) (a := ⟨gy, 2, none⟩) (b := ⟨gx, 0, none⟩) (.slice A7 (wd.length + 1) c7) (by simp only [ne_eq, Addr.mk.injEq]; omega)).trans z0
            have z1 := (World.cell?_setCell_other (w := w7) (a := ⟨gy, 2, none⟩) (b := ⟨gx, 1, none⟩) (.slice A7 (wd.length + 1) c7) (by simp only [ne_eq, Addr.mk.injEq]; omega)).trans z1
            have z2 := (World.cell?_setCell_other (w := w7) (a := ⟨gy, 2, none⟩) (b := ⟨gx, 2, none⟩) (.slice A7 (wd.length + 1) c7) (by simp only [ne_eq, Addr.mk.injEq]; omega)).trans z2
            have x0 := (World.cell?_setCell_other (w := w7) (a := ⟨gy, 2, none⟩) (b := ⟨gy, 0, none⟩) (.slice A7 (wd.length + 1) c7) (by simp only [ne_eq, Addr.mk.injEq]; omega)).trans y0
            have x1 := (World.cell?_setCell_other (w := w7) (a := ⟨gy, 2, none⟩) (b := ⟨gy, 1, none⟩) (.slice A7 (wd.length + 1) c7) (by simp only [ne_eq, Addr.mk.injEq]; omega)).trans y1
            have x2 := World.cell?_setCell_same w7 ⟨gy, 2, none⟩ (.slice A7 (wd.length + 1) c7) y2
            have l7 : gx < w7.heap.size := by have := hb7.size; omega
            clear hO7 hb7 hown hown7 hgr7 hnil7 hat7 HO6 HB6 hbw6 HO5 HM5 HB5 HX5 HW7 HM7 HB7 HX7 HO7 HYk5 hyk hyk7 keep8
            have hb8 : Below (w7.setCell ⟨gy, 2, none⟩ (.slice A7 (wd.length + 1) c7)).heap.size (w7.setCell ⟨gy, 2, none⟩ (.slice A7 (wd.length + 1) c7)) ((w7.setCell ⟨gy, 2, none⟩ (.slice A7 (wd.length + 1) c7)).alloc (.cells #[.int .i64 (qi : Int), .int .i64 (qj : Int), .slice A7 (wd.length + 1) c7] 98)) := (Below.refl _ _).alloc (Nat.le_refl _) _
            have HW9 := hid (HW8.out.below hb8)
            have HM9 := hid (HM8.out.below hb8 HM8.out.lt)
            have HB9 := hid (HB8.out.trans (hb8.mono HB8.out.size))
            have HX9 := hid (HX8.out.below hb8)
            have HO9 := hid (HO8.out.below hb8)
            have v0 := (hb8.cell (cell_lt z0)).trans z0
            have v1 := (hb8.cell (cell_lt z1)).trans z1
            have v2 := (hb8.cell (cell_lt z2)).trans z2
            obtain ⟨vals, hS, hvl, hva⟩ := HW9.out.out
            have HVa := hid hva
            have HVl := hid hvl
            have HSn := hid hS
            have hlenw := HW9.out.len
            have hnew : ∀ (j : Nat) (u : Value), [Value.int .i64 (qi : Int), .int .i64 (qj : Int), .slice A7 (wd.length + 1) c7][j]? = some u → ((w7.setCell ⟨gy, 2, none⟩ (.slice A7 (wd.length + 1) c7)).alloc (.cells #[.int .i64 (qi : Int), .int .i64 (qj : Int), .slice A7 (wd.length + 1) c7] 98)).cell? ((⟨w7.heap.size, 0, none⟩ : Addr).add j) = some u := by
              have := World.news_of_block (cs := #[.int .i64 (qi : Int), .int .i64 (qj : Int), .slice A7 (wd.length + 1) c7]) (t := 98) (fr := (0, 0)) (heap_alloc_new (w7.setCell ⟨gy, 2, none⟩ (.slice A7 (wd.length + 1) c7)) _)
              simpa using this
            have HNe := hid hnew
            have HLw := hid hlenw
            have hb9 := HB9.out.size
            clear hva hvl hnew hlenw hb8 HW8 HM8 HB8 HX8 HO8
            as_aux_lemma =>
              go_wp2_with (at_builtin; refine wpList_append_own_at _ rfl _ _ 95 rfl (w0.heap.size + 1) 98 j0 (.agg #[.int .i64 0, .int .i64 0, .slice none 0 0]) 3 40 Try.underlying95 hjnf hy0 hy1 hy2 rfl (by decide) u6 st1.length (flatW st1 vals) rfl hS ⟨w7.heap.size, 0, none⟩ 1 1 [.int .i64 (qi : Int), .int .i64 (qj : Int), .slice A7 (wd.length + 1) c7] rfl rfl HNe.out (by simp [Value.oneCell']) (by unfold maxLen; omega) (by omega) (by simp; omega) ?_)
              intro v9 w9 hown9 hgr9 hnil9 hat9
              have HWz := hid (show OutW w9 (w0.heap.size + 1) v9 (st1 ++ [((qi : Int), (qj : Int))]) (wd1 ++ [wd ++ [(c : Int)]]) from OutW.push (s := ((qi : Int), (qj : Int))) (u := wd ++ [(c : Int)]) HSn.out HVl.out HVa.out HLw.out (by rw [List.length_append]; exact HO9.out) (by rw [List.length_append]; exact hown9) hgr9)
              have nmap : u6.ownBlock ≠ some w0.heap.size := fun hh => by have := (HSn.out.lt _ hh).1; omega
              have HMz := hid (HM9.out.block (w' := w9) (hgr9.block _ HM9.out.lt (fun e => nmap e.symm)))
              have HBz := hid (HB9.out.grown hgr9 HB9.out.size (fun q hq => by have := (HSn.out.lt q hq).1; omega))
              have HXz := hid (show Own w9 (w0.heap.size + 1) (.slice A wd.length cA) wd from kept_or HX9.out hgr9 (fun q hq e2 => by
                rcases HSn.out.2 with ⟨hv, _⟩ | ⟨g, cap, cur, hv, _, hh, _⟩
                · rw [hv] at hq; cases hq
                · rw [hv] at hq
                  simp only [Value.ownBlock, Option.some.injEq] at hq
                  subst hq
                  exact own_ne HX9.out hh (by decide) e2))
              have t0 := (grown_cell hgr9 (p := ⟨gx, 0, none⟩) (cell_lt v0) HGx.out).trans v0
              have t1 := (grown_cell hgr9 (p := ⟨gx, 1, none⟩) (cell_lt v1) HGx.out).trans v1
              have t2 := (grown_cell hgr9 (p := ⟨gx, 2, none⟩) (cell_lt v2) HGx.out).trans v2
              have HGz := hid (show v9.ownBlock ≠ some gx from fun hh => by
                rcases hat9 with e | e
                · rw [e] at hh; exact HGx.out hh
                · rw [e] at hh
                  have := Option.some.inj hh
                  first | omega | (simp at this; omega))
              clear hown9 hgr9 hnil9 hat9 v0 v1 v2 x0 x1 x2 y0 y1 y2 yf z0 z1 z2 hS nmap HW9 HM9 HB9 HX9 HO9 HVa HVl HSn HNe HLw
              go_wp2
              go_roundg g2'
              case rel => exact ⟨c + 1, by omega, by go_num, by rw [HR1.out, HR2.out]; exact HWz.out, by rw [HR1.out]; exact HMz.out, HBz.out, HXz.out, t0, t1, t2, HGz.out⟩
              all_goals omega
        · obtain rfl : c = L := by omega
          have hkf : ¬ (c : Int) < (c : Int) := by omega
          have e0 := (HB.out.cell (cell_lt m0)).trans m0
          go_wp2
          go_roundg gk'
          case rel => exact ⟨k + 1, by omega, by rw [HSt.out]; have := (HRo.out c (Nat.le_refl _)).2.2.length_le; omega, by go_num, HJ2.out, by rw [HSt.out, HWt.out]; exact HO.out, by rw [HSt.out]; exact HMp.out, HB.out⟩
          all_goals omega
    · have hkE : k = sts.length := by omega
      have HF := hid (HFu.out hkE)
      have HB9 := hid (HB0.out.trans (HBw.out.mono HB0.out.size))
      have hkf : ¬ (k : Int) < (sts.length : Int) := by omega
      go_wp2
      go_ret
      exact ⟨HB9.out, k, HF.out, by omega, _, rfl, by rw [HT.out, HTw.out]; exact HO.out.weak (by have := HS0.out; omega)⟩
end Go.Proofs.Ytkboeldafppicaa
