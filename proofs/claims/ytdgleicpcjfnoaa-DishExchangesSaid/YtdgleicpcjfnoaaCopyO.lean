/- The program's copyOf: a book of the call's own. -/
import Derived.Test.YtdgleicpcjfnoaaRowU
import Derived.Test.YtdgleicpcjfnoaaRCopyD
import Derived.Deep.Cut
import Derived.Deep.RegionHeld3
set_option linter.unusedVariables false
set_option linter.unusedSimpArgs false
namespace Go.Proofs.Ytdgleicpcjfnoaa
open Go.RowKit

set_option maxRecDepth 100000 in
set_option maxHeartbeats 4000000 in
theorem copyOfU_any (P : Int) (ia : Option Addr) (its : List ItemL) (ic : Nat) (ra : Option Addr) (rls : List RuleL) (rc : Nat) (w : World) (h : BookAt w P ia its ra rls) (hli : its.length ≤ 1000) (hlit : ∀ i, i < its.length → (its[i]?.getD ([], [])).1.length ≤ 1000 ∧ (its[i]?.getD ([], [])).2.length ≤ 1000) (hl : rls.length ≤ 1000) (hls : ∀ i, i < rls.length → (rls[i]?.getD ([], 0)).1.length ≤ 1000) :
  Calls Try.prog 80 #[.agg #[.int .i64 P, .slice ia its.length ic, .slice ra rls.length rc]] w (fun en w' => Below w.heap.size w w' ∧ ∃ A c R d M, en = .returned (.agg #[.int .i64 P, .slice A its.length c, .slice R rls.length d]) ∧ w.heap.size + 3 ≤ M ∧ RowU w' (w.heap.size + 3) M 76 (csI its) its.length (.slice A its.length c) ∧ RowO w' M 55 (csR rls) rls.length (.slice R rls.length d)) := by
  have HI := hid h.items
  have HR := hid h.rules
  have HLs := hid hlit
  have HLr := hid hls
  obtain ⟨i0, hinf, hz0, hz1, hz2⟩ := info_parts item_info
  obtain ⟨j0, hjnf, hy0, hy1, hy2⟩ := info_parts rule_info
  clear h hlit hls
  go_enter Try.func80, Try.ntmps80
  go_upto_region 2 with (fail)
  obtain ⟨w2, hw2⟩ : ∃ w2, ((w.alloc (.cells #[.int .i64 P, .slice ia its.length ic, .slice ra rls.length rc] 25)).alloc (.cells #[.int .i64 0, .slice none 0 0, .slice none 0 0] 25)).alloc (.cells #[.int .i64 P, .slice none 0 0, .slice none 0 0] 25) = w2 := ⟨_, rfl⟩
  have hC0 : CpB w w2 P (.slice ia its.length ic) (.slice ra rls.length rc) (.slice none 0 0) (.slice none 0 0) := by
    rw [← hw2]
    clear hw2
    exact ⟨by go_simp, by go_simp, by go_simp, by go_simp, by go_simp, fun j hj => by go_simp, by go_simp, by go_simp, by go_simp, fun j hj => by go_simp, (((Below.refl _ _).alloc (Nat.le_refl _) _).alloc (by simp) _).alloc (by simp; omega) _⟩
  rw [hw2, show w.heap.size + 1 + 1 = w.heap.size + 2 from rfl]
  have HC0 := hid hC0
  have HR0 := hid (RowO.nil w2 (w.heap.size + 3) 76)
  clear hw2
  obtain ⟨b1, b2, _, _, _, _, _, _, _, _, _⟩ := hC0
  go_wp2
  go_loopw [14] (fun i wr => ∃ (k : Nat) (v : Value), k ≤ its.length ∧ i = .int .i64 k ∧ Hid (CpB w wr P (.slice ia its.length ic) (.slice ra rls.length rc) v (.slice none 0 0)) ∧ Hid (RowO wr (w.heap.size + 3) 76 (csI (its.take k)) k v)) (fun i _ => its.length - (intOf i).toNat)
  case atStart => exact ⟨0, _, Nat.zero_le _, rfl, HC0.out, HR0.out⟩
  case round =>
    obtain ⟨k, v, hk, rfl, HC, HRow⟩ := hrel
    clear HC0 HR0 b1 b2
    by_cases hlt : k < its.length
    · rcases HI.out.at_ with e | ⟨b, off, rfl, hc⟩
      · rw [e] at hlt; simp at hlt
      obtain ⟨A, c, B, d2, c0, c1, hA, hB⟩ := hc k hlt
      have hps := HLs.out k hlt
      have HTk := hid (take_snoc its ([], []) k hlt)
      have hkl : (its.take k).length = k := by rw [List.length_take]; omega
      have hlk : (k : Int) < (its.length : Int) := by omega
      have hk0 : (0 : Int) ≤ (k : Int) := by omega
      clear hc
      generalize its[k]?.getD ([], []) = it at *
      obtain ⟨ps, ys⟩ := it
      dsimp only at c0 c1 hA hB hps
      have hww := HC.out.bel
      have c0 := (hww.cell (cell_lt c0)).trans c0
      have c1 := (hww.cell (cell_lt c1)).trans c1
      have hA := hA.below hww
      have hB := hB.below hww
      have hz := HC.out.lt
      have HAB := hid (And.intro hA hB)
      clear hA hB hww
      generalize htk : its.take k = pre at *
      go_upto_region 5 with (fail)
      obtain ⟨w5, hw5⟩ : ∃ w5, wr.alloc (.cells #[.slice A ps.length c, .slice B ys.length d2] 76) = w5 := ⟨_, rfl⟩
      have x0 : w5.cell? ⟨wr.heap.size, 0, none⟩ = some (.slice A ps.length c) := by rw [← hw5]; clear hw5; go_simp
      have x1 : w5.cell? ⟨wr.heap.size, 1, none⟩ = some (.slice B ys.length d2) := by rw [← hw5]; clear hw5; go_simp
      have h5 : Below wr.heap.size wr w5 := by rw [← hw5]; exact (Below.refl _ _).alloc (Nat.le_refl _) _
      have hs5 : w5.heap.size = wr.heap.size + 1 := by rw [← hw5]; simp
      rw [hw5]
      clear hw5 c0 c1
      have HC5 := hid (HC.out.below h5)
      have HR5 := hid (HRow.out.below h5)
      have HAs := hid (fun W (hb : Below w5.heap.size w5 W) => (oclone_any A ps c W ((HAB.out.1.below h5).below hb) hps.1).mono (fun en w' (hh : Below W.heap.size W w' ∧ ∃ A5 c5, en = .returned (.slice A5 ps.length c5) ∧ Own w' W.heap.size (.slice A5 ps.length c5) ps) => (show Below w5.heap.size w5 w' ∧ ∃ A5 c5, en = .returned (.slice A5 ps.length c5) ∧ Hid (Own w' w5.heap.size (.slice A5 ps.length c5) ps) from ⟨hb.trans (hh.1.mono hb.size), by obtain ⟨_, A5, c5, e, o⟩ := hh; exact ⟨A5, c5, e, own_weak o hb.size⟩⟩)))
      have HBs := hid (fun W (hb : Below w5.heap.size w5 W) => (oclone_any B ys d2 W ((HAB.out.2.below h5).below hb) hps.2).mono (fun en w' (hh : Below W.heap.size W w' ∧ ∃ A5 c5, en = .returned (.slice A5 ys.length c5) ∧ Own w' W.heap.size (.slice A5 ys.length c5) ys) => (show Below w5.heap.size w5 w' ∧ Hid (Below W.heap.size W w') ∧ ∃ A5 c5, en = .returned (.slice A5 ys.length c5) ∧ Hid (Own w' W.heap.size (.slice A5 ys.length c5) ys) from ⟨hb.trans (hh.1.mono hb.size), hh.1, hh.2⟩)))
      have HG := hid (fun (W : World) (hb : Below w5.heap.size w5 W) => (show W.cell? ⟨w.heap.size + 2, 1, none⟩ = some v ∧ W.frozen? ⟨w.heap.size + 2, 1, none⟩ = false from ⟨(HC5.out.below hb).c1, (HC5.out.below hb).cf 1 (by omega)⟩))
      have HS := hid (fun (W : World) (hb : Below w5.heap.size w5 W) => (show W.cell? ⟨wr.heap.size, 0, none⟩ = some (.slice A ps.length c) ∧ W.cell? ⟨wr.heap.size, 1, none⟩ = some (.slice B ys.length d2) from ⟨(hb.cell (cell_lt x0)).trans x0, (hb.cell (cell_lt x1)).trans x1⟩))
      have HRlt := hid (HRow.out.lt)
      clear HC HRow HAB
      have hr1 : Below w5.heap.size w5 w5 := Below.refl _ _
      refine wp_region_held_drew (S := (fun w' => w'.cell? ⟨wr.heap.size, 0, none⟩ = some (.slice A ps.length c) ∧ w'.cell? ⟨wr.heap.size, 1, none⟩ = some (.slice B ys.length d2))) (by kernel_rfl) (HS.out _ hr1.drew) (fun hHeld => ?_)
      refine take_d (i := 0) (d := some 18) (v := ?_) rfl rfl (by kernel_rfl) (by kernel_rfl) (by kernel_rfl) (fun _ _ _ h => h) (Or.inl ⟨by first | rfl | (simp [*, Region.wanted, yielded]), ?hya1⟩) (by assumption) ?resta1
      case hya1 => (intro w hSw; (try dsimp only at hSw); go_simp <;> with_reducible rfl)
      try simp only [Act.put, List.setIfInBounds_toArray, List.set_cons_zero, List.set_cons_succ]
      refine take_d (i := 2) (d := some 20) (v := ?_) rfl rfl (by kernel_rfl) (by kernel_rfl) (by kernel_rfl) (fun _ _ _ h => h) (Or.inl ⟨by first | rfl | (simp [*, Region.wanted, yielded]), ?hya2⟩) (by assumption) ?resta2
      case hya2 => (intro w hSw; (try dsimp only at hSw); go_simp <;> with_reducible rfl)
      try simp only [Act.put, List.setIfInBounds_toArray, List.set_cons_zero, List.set_cons_succ]
      refine take_d (i := 3) (d := some 21) (v := ?_) rfl rfl (by kernel_rfl) (by kernel_rfl) (by kernel_rfl) (fun _ _ _ h => h) (Or.inl ⟨by first | rfl | (simp [*, Region.wanted, yielded]), ?hya3⟩) (by assumption) ?resta3
      case hya3 => (intro w hSw; (try dsimp only at hSw); go_simp <;> with_reducible rfl)
      try simp only [Act.put, List.setIfInBounds_toArray, List.set_cons_zero, List.set_cons_succ]
      refine take_d (i := 5) (d := some 23) (v := ?_) rfl rfl (by kernel_rfl) (by kernel_rfl) (by kernel_rfl) (fun _ _ _ h => h) (Or.inl ⟨by first | rfl | (simp [*, Region.wanted, yielded]), ?hya4⟩) (by assumption) ?resta4
      case hya4 => (intro w hSw; (try dsimp only at hSw); go_simp <;> with_reducible rfl)
      try simp only [Act.put, List.setIfInBounds_toArray, List.set_cons_zero, List.set_cons_succ]
      refine take_d (i := 6) (d := some 24) (v := ?_) rfl rfl (by kernel_rfl) (by kernel_rfl) (by kernel_rfl) (fun _ _ _ h => h) (Or.inl ⟨by first | rfl | (simp [*, Region.wanted, yielded]), ?hya5⟩) (by assumption) ?resta5
      case hya5 => (intro w hSw; (try dsimp only at hSw); go_simp <;> with_reducible rfl)
      try simp only [Act.put, List.setIfInBounds_toArray, List.set_cons_zero, List.set_cons_succ]
      refine wpAnyH_ready (rs := [1, 4]) (by kernel_rfl) (by simp) ?_
      refine AllReadyH.cons (o := _) rfl (fun K hK => ?_) (AllReadyH.cons (o := _) rfl (fun K hK => ?_) AllReadyH.nil)
      · obtain ⟨cg, cf⟩ := HG.out _ hr1.drew
        go_simp
        go_wp2_with fail
        refine hK.out _ _ (HS.out _ (by repeat (first | exact hr1 | exact pB | exact pA | apply Below.drew | (refine Below.alloc ?_ (by first | exact Below.size (by assumption) | omega | (simp; done) | (simp; omega)) _)))) (fun hHeld => ?_)
        clear hK K
        try simp only [Act.put, List.setIfInBounds_toArray, List.set_cons_zero, List.set_cons_succ]
        refine wpAnyH_ready (rs := [4]) (by kernel_rfl) (by simp) ?_
        refine AllReadyH.cons (o := _) rfl (fun K hK => ?_) AllReadyH.nil
        go_simp
        refine (HAs.out _ (by repeat (first | exact hr1 | exact pB | exact pA | apply Below.drew | (refine Below.alloc ?_ (by first | exact Below.size (by assumption) | omega | (simp; done) | (simp; omega)) _)))).mono ?_
        rintro en wA ⟨pA, A5, c5, rfl, IA⟩
        go_wp2_with fail
        refine hK.out _ _ (HS.out _ pA) (fun hHeld => ?_)
        clear hK K
        try simp only [Act.put, List.setIfInBounds_toArray, List.set_cons_zero, List.set_cons_succ]
        refine wpAnyH_ready (rs := [7]) (by kernel_rfl) (by simp) ?_
        refine AllReadyH.cons (o := _) rfl (fun K hK => ?_) AllReadyH.nil
        go_simp
        refine (HBs.out _ (by repeat (first | exact hr1 | exact pB | exact pA | apply Below.drew | (refine Below.alloc ?_ (by first | exact Below.size (by assumption) | omega | (simp; done) | (simp; omega)) _)))).mono ?_
        rintro en wB ⟨pB, qB, B5, d5, rfl, IB⟩
        go_wp2_with fail
        refine hK.out _ _ (HS.out _ pB) (fun hHeld => ?_)
        clear hK K
        try simp only [Act.put, List.setIfInBounds_toArray, List.set_cons_zero, List.set_cons_succ]
        refine take_d (i := 8) (d := some 26) (v := ?_) rfl rfl (by kernel_rfl) (by kernel_rfl) (by kernel_rfl) (fun _ _ _ h => h) (Or.inl ⟨by first | rfl | (simp [*, Region.wanted, yielded]), ?hya6⟩) (by assumption) ?resta6
        case hya6 => (intro w hSw; (try dsimp only at hSw); go_simp <;> with_reducible rfl)
        try simp only [Act.put, List.setIfInBounds_toArray, List.set_cons_zero, List.set_cons_succ]
        refine wpAnyH_ready (rs := [9]) (by kernel_rfl) (by simp) ?_
        refine AllReadyH.cons (o := _) rfl (fun K hK => ?_) AllReadyH.nil
        go_simp
        go_wp2_with fail
        refine hK.out _ _ (HS.out _ (by repeat (first | exact hr1 | exact pB | exact pA | apply Below.drew | (refine Below.alloc ?_ (by first | exact Below.size (by assumption) | omega | (simp; done) | (simp; omega)) _)))) (fun hHeld => ?_)
        clear hK K
        try simp only [Act.put, List.setIfInBounds_toArray, List.set_cons_zero, List.set_cons_succ]
        refine wpAnyH_ready (rs := [10]) (by kernel_rfl) (by simp) ?_
        refine AllReadyH.cons (o := _) rfl (fun K hK => ?_) AllReadyH.nil
        have pX := pB.alloc pB.size (.cells #[.slice A5 ps.length c5, .slice B5 ys.length d5] 76)
        obtain ⟨cl, hrow, HCL⟩ := HR5.out.rows pX
        have OA : CelO (wB.alloc (.cells #[.slice A5 ps.length c5, .slice B5 ys.length d5] 76)) w5.heap.size (.slice A5 ps.length c5) (.inl ps) := (show CelO wA _ _ (.inl ps) from IA.out).below (qB.out.trans (((Below.refl _ _).alloc (Nat.le_refl _) _).mono qB.out.size))
        have OB : CelO (wB.alloc (.cells #[.slice A5 ps.length c5, .slice B5 ys.length d5] 76)) w5.heap.size (.slice B5 ys.length d5) (.inl ys) := ((show CelO wB _ _ (.inl ys) from IB.out).weak pA.size).below ((Below.refl _ _).alloc (Nat.le_refl _) _)
        have D12 : Diff (.slice A5 ps.length c5) (.slice B5 ys.length d5) := fun q hq hq2 => by have h1 := (Go.World.ownsRow.lt IA.out q hq).2; have h2 := (Go.World.ownsRow.lt IB.out q hq2).1; omega
        refine step_append_lies _ rfl _ _ 22 rfl (w.heap.size + 3) 76 i0 (.agg #[.slice none 0 0, .slice none 0 0]) 2 48 Try.underlying22 hinf hz0 hz1 hz2 rfl (by decide) v k cl (by rfl) (by exact hrow) ⟨wB.heap.size, 0, none⟩ 1 1 [.slice A5 ps.length c5, .slice B5 ys.length d5] (by rfl) rfl (World.news_of_block (cs := #[.slice A5 ps.length c5, .slice B5 ys.length d5]) (t := 76) (fr := (0, 0)) (heap_alloc_new wB _)) (by simp [Value.oneCell']) (by decide) (by unfold maxLen; omega) (by omega) (by have := pB.size; simp; omega) _ rfl ?_
        intro g4 cap4 w4 hown4 hgrow4 hat4 hlt4
        have hvr := HR5.out.lt
        have p4 : Below (w.heap.size + 3) w5 w4 := (pX.mono (by omega)).grown hgrow4 (by have := pB.size; simp; omega) (fun q hq => (hvr q hq).1)
        have HN := hid (RowO.push (w := w5) (m := w5.heap.size) (by decide) HCL.out.1 HCL.out.2 hrow pX (Nat.le_refl _) (by omega) OA OB D12 hown4 hgrow4)
        have HX4 := hid (HC5.out.keep p4)
        have hs4 : w5.heap.size ≤ w4.heap.size := p4.size
        have hK4 : w4.cell? ⟨wr.heap.size, 0, none⟩ = some (.slice A ps.length c) ∧ w4.cell? ⟨wr.heap.size, 1, none⟩ = some (.slice B ys.length d2) := by obtain ⟨k0, k1⟩ := HS.out _ pX; have hne : v.ownBlock ≠ some wr.heap.size := fun e => (by have := (HRlt.out _ e).2; omega); exact ⟨(World.cell?_of_block (hgrow4.block wr.heap.size (cell_lt k0) (fun e => hne e.symm))).trans k0, (World.cell?_of_block (hgrow4.block wr.heap.size (cell_lt k1) (fun e => hne e.symm))).trans k1⟩
        clear hown4 hgrow4 hat4 hrow HCL OA OB D12 hvr
        refine hK.out _ _ hK4 (fun hHeld => ?_)
        clear hK K
        try simp only [Act.put, List.setIfInBounds_toArray, List.set_cons_zero, List.set_cons_succ]
        refine take_d (i := 11) (d := some 29) (v := ?_) rfl rfl (by kernel_rfl) (by kernel_rfl) (by kernel_rfl) (fun _ _ _ h => h) (Or.inl ⟨by first | rfl | (simp [*, Region.wanted, yielded]), ?hya7⟩) (by assumption) ?resta7
        case hya7 => (intro w hSw; (try dsimp only at hSw); go_simp <;> with_reducible rfl)
        try simp only [Act.put, List.setIfInBounds_toArray, List.set_cons_zero, List.set_cons_succ]
        refine wpAnyH_ready (rs := [12]) (by kernel_rfl) (by simp) ?_
        refine AllReadyH.cons (o := _) rfl (fun K hK => ?_) AllReadyH.nil
        have cg4 := HX4.out.c1
        have cf4 := HX4.out.cf 1 (by omega)
        go_simp
        go_wp2_with fail
        refine hK.out _ _ (by obtain ⟨k0, k1⟩ := hK4; exact ⟨by go_simp, by go_simp⟩) (fun hHeld => ?_)
        clear hK K
        try simp only [Act.put, List.setIfInBounds_toArray, List.set_cons_zero, List.set_cons_succ]
        refine wpAnyH_done (by kernel_rfl) ?_ _
        go_simp
        go_simp
        go_wp2
        go_roundw
        case rel => exact ⟨k + 1, _, by omega, by go_num, HX4.out.put1 _, by rw [HTk.out, csI_snoc]; exact HN.out.setCell _ _ (by show w.heap.size + 2 < _; omega)⟩
        case measure => simp [intOf]; omega
      · go_simp
        refine (HAs.out _ (by repeat (first | exact hr1 | exact pB | exact pA | apply Below.drew | (refine Below.alloc ?_ (by first | exact Below.size (by assumption) | omega | (simp; done) | (simp; omega)) _)))).mono ?_
        rintro en wA ⟨pA, A5, c5, rfl, IA⟩
        go_wp2_with fail
        refine hK.out _ _ (HS.out _ pA) (fun hHeld => ?_)
        clear hK K
        try simp only [Act.put, List.setIfInBounds_toArray, List.set_cons_zero, List.set_cons_succ]
        refine wpAnyH_ready (rs := [1, 7]) (by kernel_rfl) (by simp) ?_
        refine AllReadyH.cons (o := _) rfl (fun K hK => ?_) (AllReadyH.cons (o := _) rfl (fun K hK => ?_) AllReadyH.nil)
        · obtain ⟨cg, cf⟩ := HG.out _ pA
          go_simp
          go_wp2_with fail
          refine hK.out _ _ (HS.out _ (by repeat (first | exact hr1 | exact pB | exact pA | apply Below.drew | (refine Below.alloc ?_ (by first | exact Below.size (by assumption) | omega | (simp; done) | (simp; omega)) _)))) (fun hHeld => ?_)
          clear hK K
          try simp only [Act.put, List.setIfInBounds_toArray, List.set_cons_zero, List.set_cons_succ]
          refine wpAnyH_ready (rs := [7]) (by kernel_rfl) (by simp) ?_
          refine AllReadyH.cons (o := _) rfl (fun K hK => ?_) AllReadyH.nil
          go_simp
          refine (HBs.out _ (by repeat (first | exact hr1 | exact pB | exact pA | apply Below.drew | (refine Below.alloc ?_ (by first | exact Below.size (by assumption) | omega | (simp; done) | (simp; omega)) _)))).mono ?_
          rintro en wB ⟨pB, qB, B5, d5, rfl, IB⟩
          go_wp2_with fail
          refine hK.out _ _ (HS.out _ pB) (fun hHeld => ?_)
          clear hK K
          try simp only [Act.put, List.setIfInBounds_toArray, List.set_cons_zero, List.set_cons_succ]
          refine take_d (i := 8) (d := some 26) (v := ?_) rfl rfl (by kernel_rfl) (by kernel_rfl) (by kernel_rfl) (fun _ _ _ h => h) (Or.inl ⟨by first | rfl | (simp [*, Region.wanted, yielded]), ?hya8⟩) (by assumption) ?resta8
          case hya8 => (intro w hSw; (try dsimp only at hSw); go_simp <;> with_reducible rfl)
          try simp only [Act.put, List.setIfInBounds_toArray, List.set_cons_zero, List.set_cons_succ]
          refine wpAnyH_ready (rs := [9]) (by kernel_rfl) (by simp) ?_
          refine AllReadyH.cons (o := _) rfl (fun K hK => ?_) AllReadyH.nil
          go_simp
          go_wp2_with fail
          refine hK.out _ _ (HS.out _ (by repeat (first | exact hr1 | exact pB | exact pA | apply Below.drew | (refine Below.alloc ?_ (by first | exact Below.size (by assumption) | omega | (simp; done) | (simp; omega)) _)))) (fun hHeld => ?_)
          clear hK K
          try simp only [Act.put, List.setIfInBounds_toArray, List.set_cons_zero, List.set_cons_succ]
          refine wpAnyH_ready (rs := [10]) (by kernel_rfl) (by simp) ?_
          refine AllReadyH.cons (o := _) rfl (fun K hK => ?_) AllReadyH.nil
          have pX := pB.alloc pB.size (.cells #[.slice A5 ps.length c5, .slice B5 ys.length d5] 76)
          obtain ⟨cl, hrow, HCL⟩ := HR5.out.rows pX
          have OA : CelO (wB.alloc (.cells #[.slice A5 ps.length c5, .slice B5 ys.length d5] 76)) w5.heap.size (.slice A5 ps.length c5) (.inl ps) := (show CelO wA _ _ (.inl ps) from IA.out).below (qB.out.trans (((Below.refl _ _).alloc (Nat.le_refl _) _).mono qB.out.size))
          have OB : CelO (wB.alloc (.cells #[.slice A5 ps.length c5, .slice B5 ys.length d5] 76)) w5.heap.size (.slice B5 ys.length d5) (.inl ys) := ((show CelO wB _ _ (.inl ys) from IB.out).weak pA.size).below ((Below.refl _ _).alloc (Nat.le_refl _) _)
          have D12 : Diff (.slice A5 ps.length c5) (.slice B5 ys.length d5) := fun q hq hq2 => by have h1 := (Go.World.ownsRow.lt IA.out q hq).2; have h2 := (Go.World.ownsRow.lt IB.out q hq2).1; omega
          refine step_append_lies _ rfl _ _ 22 rfl (w.heap.size + 3) 76 i0 (.agg #[.slice none 0 0, .slice none 0 0]) 2 48 Try.underlying22 hinf hz0 hz1 hz2 rfl (by decide) v k cl (by rfl) (by exact hrow) ⟨wB.heap.size, 0, none⟩ 1 1 [.slice A5 ps.length c5, .slice B5 ys.length d5] (by rfl) rfl (World.news_of_block (cs := #[.slice A5 ps.length c5, .slice B5 ys.length d5]) (t := 76) (fr := (0, 0)) (heap_alloc_new wB _)) (by simp [Value.oneCell']) (by decide) (by unfold maxLen; omega) (by omega) (by have := pB.size; simp; omega) _ rfl ?_
          intro g4 cap4 w4 hown4 hgrow4 hat4 hlt4
          have hvr := HR5.out.lt
          have p4 : Below (w.heap.size + 3) w5 w4 := (pX.mono (by omega)).grown hgrow4 (by have := pB.size; simp; omega) (fun q hq => (hvr q hq).1)
          have HN := hid (RowO.push (w := w5) (m := w5.heap.size) (by decide) HCL.out.1 HCL.out.2 hrow pX (Nat.le_refl _) (by omega) OA OB D12 hown4 hgrow4)
          have HX4 := hid (HC5.out.keep p4)
          have hs4 : w5.heap.size ≤ w4.heap.size := p4.size
          have hK4 : w4.cell? ⟨wr.heap.size, 0, none⟩ = some (.slice A ps.length c) ∧ w4.cell? ⟨wr.heap.size, 1, none⟩ = some (.slice B ys.length d2) := by obtain ⟨k0, k1⟩ := HS.out _ pX; have hne : v.ownBlock ≠ some wr.heap.size := fun e => (by have := (HRlt.out _ e).2; omega); exact ⟨(World.cell?_of_block (hgrow4.block wr.heap.size (cell_lt k0) (fun e => hne e.symm))).trans k0, (World.cell?_of_block (hgrow4.block wr.heap.size (cell_lt k1) (fun e => hne e.symm))).trans k1⟩
          clear hown4 hgrow4 hat4 hrow HCL OA OB D12 hvr
          refine hK.out _ _ hK4 (fun hHeld => ?_)
          clear hK K
          try simp only [Act.put, List.setIfInBounds_toArray, List.set_cons_zero, List.set_cons_succ]
          refine take_d (i := 11) (d := some 29) (v := ?_) rfl rfl (by kernel_rfl) (by kernel_rfl) (by kernel_rfl) (fun _ _ _ h => h) (Or.inl ⟨by first | rfl | (simp [*, Region.wanted, yielded]), ?hya9⟩) (by assumption) ?resta9
          case hya9 => (intro w hSw; (try dsimp only at hSw); go_simp <;> with_reducible rfl)
          try simp only [Act.put, List.setIfInBounds_toArray, List.set_cons_zero, List.set_cons_succ]
          refine wpAnyH_ready (rs := [12]) (by kernel_rfl) (by simp) ?_
          refine AllReadyH.cons (o := _) rfl (fun K hK => ?_) AllReadyH.nil
          have cg4 := HX4.out.c1
          have cf4 := HX4.out.cf 1 (by omega)
          go_simp
          go_wp2_with fail
          refine hK.out _ _ (by obtain ⟨k0, k1⟩ := hK4; exact ⟨by go_simp, by go_simp⟩) (fun hHeld => ?_)
          clear hK K
          try simp only [Act.put, List.setIfInBounds_toArray, List.set_cons_zero, List.set_cons_succ]
          refine wpAnyH_done (by kernel_rfl) ?_ _
          go_simp
          go_simp
          go_wp2
          go_roundw
          case rel => exact ⟨k + 1, _, by omega, by go_num, HX4.out.put1 _, by rw [HTk.out, csI_snoc]; exact HN.out.setCell _ _ (by show w.heap.size + 2 < _; omega)⟩
          case measure => simp [intOf]; omega
        · go_simp
          refine (HBs.out _ (by repeat (first | exact hr1 | exact pB | exact pA | apply Below.drew | (refine Below.alloc ?_ (by first | exact Below.size (by assumption) | omega | (simp; done) | (simp; omega)) _)))).mono ?_
          rintro en wB ⟨pB, qB, B5, d5, rfl, IB⟩
          go_wp2_with fail
          refine hK.out _ _ (HS.out _ pB) (fun hHeld => ?_)
          clear hK K
          try simp only [Act.put, List.setIfInBounds_toArray, List.set_cons_zero, List.set_cons_succ]
          refine take_d (i := 8) (d := some 26) (v := ?_) rfl rfl (by kernel_rfl) (by kernel_rfl) (by kernel_rfl) (fun _ _ _ h => h) (Or.inl ⟨by first | rfl | (simp [*, Region.wanted, yielded]), ?hya10⟩) (by assumption) ?resta10
          case hya10 => (intro w hSw; (try dsimp only at hSw); go_simp <;> with_reducible rfl)
          try simp only [Act.put, List.setIfInBounds_toArray, List.set_cons_zero, List.set_cons_succ]
          refine wpAnyH_ready (rs := [1, 9]) (by kernel_rfl) (by simp) ?_
          refine AllReadyH.cons (o := _) rfl (fun K hK => ?_) (AllReadyH.cons (o := _) rfl (fun K hK => ?_) AllReadyH.nil)
          · obtain ⟨cg, cf⟩ := HG.out _ pB
            go_simp
            go_wp2_with fail
            refine hK.out _ _ (HS.out _ (by repeat (first | exact hr1 | exact pB | exact pA | apply Below.drew | (refine Below.alloc ?_ (by first | exact Below.size (by assumption) | omega | (simp; done) | (simp; omega)) _)))) (fun hHeld => ?_)
            clear hK K
            try simp only [Act.put, List.setIfInBounds_toArray, List.set_cons_zero, List.set_cons_succ]
            refine wpAnyH_ready (rs := [9]) (by kernel_rfl) (by simp) ?_
            refine AllReadyH.cons (o := _) rfl (fun K hK => ?_) AllReadyH.nil
            go_simp
            go_wp2_with fail
            refine hK.out _ _ (HS.out _ (by repeat (first | exact hr1 | exact pB | exact pA | apply Below.drew | (refine Below.alloc ?_ (by first | exact Below.size (by assumption) | omega | (simp; done) | (simp; omega)) _)))) (fun hHeld => ?_)
            clear hK K
            try simp only [Act.put, List.setIfInBounds_toArray, List.set_cons_zero, List.set_cons_succ]
            refine wpAnyH_ready (rs := [10]) (by kernel_rfl) (by simp) ?_
            refine AllReadyH.cons (o := _) rfl (fun K hK => ?_) AllReadyH.nil
            have pX := pB.alloc pB.size (.cells #[.slice A5 ps.length c5, .slice B5 ys.length d5] 76)
            obtain ⟨cl, hrow, HCL⟩ := HR5.out.rows pX
            have OA : CelO (wB.alloc (.cells #[.slice A5 ps.length c5, .slice B5 ys.length d5] 76)) w5.heap.size (.slice A5 ps.length c5) (.inl ps) := (show CelO wA _ _ (.inl ps) from IA.out).below (qB.out.trans (((Below.refl _ _).alloc (Nat.le_refl _) _).mono qB.out.size))
            have OB : CelO (wB.alloc (.cells #[.slice A5 ps.length c5, .slice B5 ys.length d5] 76)) w5.heap.size (.slice B5 ys.length d5) (.inl ys) := ((show CelO wB _ _ (.inl ys) from IB.out).weak pA.size).below ((Below.refl _ _).alloc (Nat.le_refl _) _)
            have D12 : Diff (.slice A5 ps.length c5) (.slice B5 ys.length d5) := fun q hq hq2 => by have h1 := (Go.World.ownsRow.lt IA.out q hq).2; have h2 := (Go.World.ownsRow.lt IB.out q hq2).1; omega
            refine step_append_lies _ rfl _ _ 22 rfl (w.heap.size + 3) 76 i0 (.agg #[.slice none 0 0, .slice none 0 0]) 2 48 Try.underlying22 hinf hz0 hz1 hz2 rfl (by decide) v k cl (by rfl) (by exact hrow) ⟨wB.heap.size, 0, none⟩ 1 1 [.slice A5 ps.length c5, .slice B5 ys.length d5] (by rfl) rfl (World.news_of_block (cs := #[.slice A5 ps.length c5, .slice B5 ys.length d5]) (t := 76) (fr := (0, 0)) (heap_alloc_new wB _)) (by simp [Value.oneCell']) (by decide) (by unfold maxLen; omega) (by omega) (by have := pB.size; simp; omega) _ rfl ?_
            intro g4 cap4 w4 hown4 hgrow4 hat4 hlt4
            have hvr := HR5.out.lt
            have p4 : Below (w.heap.size + 3) w5 w4 := (pX.mono (by omega)).grown hgrow4 (by have := pB.size; simp; omega) (fun q hq => (hvr q hq).1)
            have HN := hid (RowO.push (w := w5) (m := w5.heap.size) (by decide) HCL.out.1 HCL.out.2 hrow pX (Nat.le_refl _) (by omega) OA OB D12 hown4 hgrow4)
            have HX4 := hid (HC5.out.keep p4)
            have hs4 : w5.heap.size ≤ w4.heap.size := p4.size
            have hK4 : w4.cell? ⟨wr.heap.size, 0, none⟩ = some (.slice A ps.length c) ∧ w4.cell? ⟨wr.heap.size, 1, none⟩ = some (.slice B ys.length d2) := by obtain ⟨k0, k1⟩ := HS.out _ pX; have hne : v.ownBlock ≠ some wr.heap.size := fun e => (by have := (HRlt.out _ e).2; omega); exact ⟨(World.cell?_of_block (hgrow4.block wr.heap.size (cell_lt k0) (fun e => hne e.symm))).trans k0, (World.cell?_of_block (hgrow4.block wr.heap.size (cell_lt k1) (fun e => hne e.symm))).trans k1⟩
            clear hown4 hgrow4 hat4 hrow HCL OA OB D12 hvr
            refine hK.out _ _ hK4 (fun hHeld => ?_)
            clear hK K
            try simp only [Act.put, List.setIfInBounds_toArray, List.set_cons_zero, List.set_cons_succ]
            refine take_d (i := 11) (d := some 29) (v := ?_) rfl rfl (by kernel_rfl) (by kernel_rfl) (by kernel_rfl) (fun _ _ _ h => h) (Or.inl ⟨by first | rfl | (simp [*, Region.wanted, yielded]), ?hya11⟩) (by assumption) ?resta11
            case hya11 => (intro w hSw; (try dsimp only at hSw); go_simp <;> with_reducible rfl)
            try simp only [Act.put, List.setIfInBounds_toArray, List.set_cons_zero, List.set_cons_succ]
            refine wpAnyH_ready (rs := [12]) (by kernel_rfl) (by simp) ?_
            refine AllReadyH.cons (o := _) rfl (fun K hK => ?_) AllReadyH.nil
            have cg4 := HX4.out.c1
            have cf4 := HX4.out.cf 1 (by omega)
            go_simp
            go_wp2_with fail
            refine hK.out _ _ (by obtain ⟨k0, k1⟩ := hK4; exact ⟨by go_simp, by go_simp⟩) (fun hHeld => ?_)
            clear hK K
            try simp only [Act.put, List.setIfInBounds_toArray, List.set_cons_zero, List.set_cons_succ]
            refine wpAnyH_done (by kernel_rfl) ?_ _
            go_simp
            go_simp
            go_wp2
            go_roundw
            case rel => exact ⟨k + 1, _, by omega, by go_num, HX4.out.put1 _, by rw [HTk.out, csI_snoc]; exact HN.out.setCell _ _ (by show w.heap.size + 2 < _; omega)⟩
            case measure => simp [intOf]; omega
          · go_simp
            go_wp2_with fail
            refine hK.out _ _ (HS.out _ (by repeat (first | exact hr1 | exact pB | exact pA | apply Below.drew | (refine Below.alloc ?_ (by first | exact Below.size (by assumption) | omega | (simp; done) | (simp; omega)) _)))) (fun hHeld => ?_)
            clear hK K
            try simp only [Act.put, List.setIfInBounds_toArray, List.set_cons_zero, List.set_cons_succ]
            refine wpAnyH_ready (rs := [1]) (by kernel_rfl) (by simp) ?_
            refine AllReadyH.cons (o := _) rfl (fun K hK => ?_) AllReadyH.nil
            obtain ⟨cg, cf⟩ := HG.out _ (pB.alloc pB.size (.cells #[.slice A5 ps.length c5, .slice B5 ys.length d5] 76))
            go_simp
            go_wp2_with fail
            refine hK.out _ _ (HS.out _ (by repeat (first | exact hr1 | exact pB | exact pA | apply Below.drew | (refine Below.alloc ?_ (by first | exact Below.size (by assumption) | omega | (simp; done) | (simp; omega)) _)))) (fun hHeld => ?_)
            clear hK K
            try simp only [Act.put, List.setIfInBounds_toArray, List.set_cons_zero, List.set_cons_succ]
            refine wpAnyH_ready (rs := [10]) (by kernel_rfl) (by simp) ?_
            refine AllReadyH.cons (o := _) rfl (fun K hK => ?_) AllReadyH.nil
            have pX := pB.alloc pB.size (.cells #[.slice A5 ps.length c5, .slice B5 ys.length d5] 76)
            obtain ⟨cl, hrow, HCL⟩ := HR5.out.rows pX
            have OA : CelO (wB.alloc (.cells #[.slice A5 ps.length c5, .slice B5 ys.length d5] 76)) w5.heap.size (.slice A5 ps.length c5) (.inl ps) := (show CelO wA _ _ (.inl ps) from IA.out).below (qB.out.trans (((Below.refl _ _).alloc (Nat.le_refl _) _).mono qB.out.size))
            have OB : CelO (wB.alloc (.cells #[.slice A5 ps.length c5, .slice B5 ys.length d5] 76)) w5.heap.size (.slice B5 ys.length d5) (.inl ys) := ((show CelO wB _ _ (.inl ys) from IB.out).weak pA.size).below ((Below.refl _ _).alloc (Nat.le_refl _) _)
            have D12 : Diff (.slice A5 ps.length c5) (.slice B5 ys.length d5) := fun q hq hq2 => by have h1 := (Go.World.ownsRow.lt IA.out q hq).2; have h2 := (Go.World.ownsRow.lt IB.out q hq2).1; omega
            refine step_append_lies _ rfl _ _ 22 rfl (w.heap.size + 3) 76 i0 (.agg #[.slice none 0 0, .slice none 0 0]) 2 48 Try.underlying22 hinf hz0 hz1 hz2 rfl (by decide) v k cl (by rfl) (by exact hrow) ⟨wB.heap.size, 0, none⟩ 1 1 [.slice A5 ps.length c5, .slice B5 ys.length d5] (by rfl) rfl (World.news_of_block (cs := #[.slice A5 ps.length c5, .slice B5 ys.length d5]) (t := 76) (fr := (0, 0)) (heap_alloc_new wB _)) (by simp [Value.oneCell']) (by decide) (by unfold maxLen; omega) (by omega) (by have := pB.size; simp; omega) _ rfl ?_
            intro g4 cap4 w4 hown4 hgrow4 hat4 hlt4
            have hvr := HR5.out.lt
            have p4 : Below (w.heap.size + 3) w5 w4 := (pX.mono (by omega)).grown hgrow4 (by have := pB.size; simp; omega) (fun q hq => (hvr q hq).1)
            have HN := hid (RowO.push (w := w5) (m := w5.heap.size) (by decide) HCL.out.1 HCL.out.2 hrow pX (Nat.le_refl _) (by omega) OA OB D12 hown4 hgrow4)
            have HX4 := hid (HC5.out.keep p4)
            have hs4 : w5.heap.size ≤ w4.heap.size := p4.size
            have hK4 : w4.cell? ⟨wr.heap.size, 0, none⟩ = some (.slice A ps.length c) ∧ w4.cell? ⟨wr.heap.size, 1, none⟩ = some (.slice B ys.length d2) := by obtain ⟨k0, k1⟩ := HS.out _ pX; have hne : v.ownBlock ≠ some wr.heap.size := fun e => (by have := (HRlt.out _ e).2; omega); exact ⟨(World.cell?_of_block (hgrow4.block wr.heap.size (cell_lt k0) (fun e => hne e.symm))).trans k0, (World.cell?_of_block (hgrow4.block wr.heap.size (cell_lt k1) (fun e => hne e.symm))).trans k1⟩
            clear hown4 hgrow4 hat4 hrow HCL OA OB D12 hvr
            refine hK.out _ _ hK4 (fun hHeld => ?_)
            clear hK K
            try simp only [Act.put, List.setIfInBounds_toArray, List.set_cons_zero, List.set_cons_succ]
            refine take_d (i := 11) (d := some 29) (v := ?_) rfl rfl (by kernel_rfl) (by kernel_rfl) (by kernel_rfl) (fun _ _ _ h => h) (Or.inl ⟨by first | rfl | (simp [*, Region.wanted, yielded]), ?hya12⟩) (by assumption) ?resta12
            case hya12 => (intro w hSw; (try dsimp only at hSw); go_simp <;> with_reducible rfl)
            try simp only [Act.put, List.setIfInBounds_toArray, List.set_cons_zero, List.set_cons_succ]
            refine wpAnyH_ready (rs := [12]) (by kernel_rfl) (by simp) ?_
            refine AllReadyH.cons (o := _) rfl (fun K hK => ?_) AllReadyH.nil
            have cg4 := HX4.out.c1
            have cf4 := HX4.out.cf 1 (by omega)
            go_simp
            go_wp2_with fail
            refine hK.out _ _ (by obtain ⟨k0, k1⟩ := hK4; exact ⟨by go_simp, by go_simp⟩) (fun hHeld => ?_)
            clear hK K
            try simp only [Act.put, List.setIfInBounds_toArray, List.set_cons_zero, List.set_cons_succ]
            refine wpAnyH_done (by kernel_rfl) ?_ _
            go_simp
            go_simp
            go_wp2
            go_roundw
            case rel => exact ⟨k + 1, _, by omega, by go_num, HX4.out.put1 _, by rw [HTk.out, csI_snoc]; exact HN.out.setCell _ _ (by show w.heap.size + 2 < _; omega)⟩
            case measure => simp [intOf]; omega
    · obtain rfl : k = its.length := by omega
      rw [List.take_length] at HRow
      have hnlt : ¬ (its.length : Int) < (its.length : Int) := by omega
      have HRowU := hid (RowU.of HRow.out)
      have hM3 : w.heap.size + 3 ≤ wr.heap.size := by have := HC.out.lt; omega
      obtain ⟨M, hM⟩ : ∃ M, M = wr.heap.size := ⟨_, rfl⟩
      have hMw : M ≤ wr.heap.size := by omega
      rw [← hM] at HRowU hM3
      clear hM HRow
      have HR0 := hid (RowO.nil wr M 55)
      have b2 := HC.out.b2
      clear hlt hk
      go_wp2
      clear b2 hnlt
      go_loopw [34] (fun i wq => ∃ (k : Nat) (u : Value), k ≤ rls.length ∧ i = .int .i64 k ∧ Hid (CpB w wq P (.slice ia its.length ic) (.slice ra rls.length rc) v u) ∧ Hid (RowU wq (w.heap.size + 3) M 76 (csI its) its.length v) ∧ Hid (RowO wq M 55 (csR (rls.take k)) k u) ∧ M ≤ wq.heap.size) (fun i _ => rls.length - (intOf i).toNat)
      case atStart => exact ⟨0, _, Nat.zero_le _, rfl, HC.out, HRowU.out, HR0.out, hMw⟩
      case round =>
        obtain ⟨k, u, hk, rfl, HC2, HIt, HRu, hMr⟩ := hrel
        clear HC HR0 HRowU hMw
        by_cases hlt : k < rls.length
        · rcases HR.out.at_ with e | ⟨b, off, rfl, hc⟩
          · rw [e] at hlt; simp at hlt
          obtain ⟨A, c, c0, c1, hA, hbd⟩ := hc k hlt
          have hps := HLr.out k hlt
          have HTk := hid (take_snoc rls ([], 0) k hlt)
          have hkl : (rls.take k).length = k := by rw [List.length_take]; omega
          have hlk : (k : Int) < (rls.length : Int) := by omega
          have hk0 : (0 : Int) ≤ (k : Int) := by omega
          clear hc hbd
          generalize rls[k]?.getD ([], 0) = it at *
          obtain ⟨ps, tt⟩ := it
          dsimp only at c0 c1 hA hps
          have hww := HC2.out.bel
          have c0 := (hww.cell (cell_lt c0)).trans c0
          have c1 := (hww.cell (cell_lt c1)).trans c1
          have hA := hA.below hww
          have hz := HC2.out.lt
          have HAB := hid hA
          clear hA hww
          generalize htk : rls.take k = pre at *
          go_upto_region 10 with (fail)
          obtain ⟨w5, hw5⟩ : ∃ w5, wr.alloc (.cells #[.slice A ps.length c, .int .i64 tt] 55) = w5 := ⟨_, rfl⟩
          have x0 : w5.cell? ⟨wr.heap.size, 0, none⟩ = some (.slice A ps.length c) := by rw [← hw5]; clear hw5; go_simp
          have x1 : w5.cell? ⟨wr.heap.size, 1, none⟩ = some (.int .i64 tt) := by rw [← hw5]; clear hw5; go_simp
          have h5 : Below wr.heap.size wr w5 := by rw [← hw5]; exact (Below.refl _ _).alloc (Nat.le_refl _) _
          have hs5 : w5.heap.size = wr.heap.size + 1 := by rw [← hw5]; simp
          rw [hw5]
          clear hw5 c0 c1
          have HC5 := hid (HC2.out.below h5)
          have HR5 := hid (HRu.out.below h5)
          have HI5 := hid (HIt.out.below h5)
          have HAs := hid (fun W (hb : Below w5.heap.size w5 W) => (oclone_any A ps c W ((HAB.out.below h5).below hb) hps).mono (fun en w' (hh : Below W.heap.size W w' ∧ ∃ A5 c5, en = .returned (.slice A5 ps.length c5) ∧ Own w' W.heap.size (.slice A5 ps.length c5) ps) => (show Below w5.heap.size w5 w' ∧ ∃ A5 c5, en = .returned (.slice A5 ps.length c5) ∧ Hid (Own w' w5.heap.size (.slice A5 ps.length c5) ps) from ⟨hb.trans (hh.1.mono hb.size), by obtain ⟨_, A5, c5, e, o⟩ := hh; exact ⟨A5, c5, e, own_weak o hb.size⟩⟩)))
          have HG := hid (fun (W : World) (hb : Below w5.heap.size w5 W) => (show W.cell? ⟨w.heap.size + 2, 2, none⟩ = some u ∧ W.frozen? ⟨w.heap.size + 2, 2, none⟩ = false from ⟨(HC5.out.below hb).c2, (HC5.out.below hb).cf 2 (by omega)⟩))
          have HS := hid (fun (W : World) (hb : Below w5.heap.size w5 W) => (show W.cell? ⟨wr.heap.size, 0, none⟩ = some (.slice A ps.length c) ∧ W.cell? ⟨wr.heap.size, 1, none⟩ = some (.int .i64 tt) from ⟨(hb.cell (cell_lt x0)).trans x0, (hb.cell (cell_lt x1)).trans x1⟩))
          have HRlt := hid (HRu.out.lt)
          clear HC2 HRu HIt HAB
          have hr1 : Below w5.heap.size w5 w5 := Below.refl _ _
          refine wp_region_held_drew (S := (fun w' => w'.cell? ⟨wr.heap.size, 0, none⟩ = some (.slice A ps.length c) ∧ w'.cell? ⟨wr.heap.size, 1, none⟩ = some (.int .i64 tt))) (by kernel_rfl) (HS.out _ hr1.drew) (fun hHeld => ?_)
          refine take_d (i := 0) (d := some 38) (v := ?_) rfl rfl (by kernel_rfl) (by kernel_rfl) (by kernel_rfl) (fun _ _ _ h => h) (Or.inl ⟨by first | rfl | (simp [*, Region.wanted, yielded]), ?hyb1⟩) (by assumption) ?restb1
          case hyb1 => (intro w hSw; (try dsimp only at hSw); go_simp <;> with_reducible rfl)
          try simp only [Act.put, List.setIfInBounds_toArray, List.set_cons_zero, List.set_cons_succ]
          refine take_d (i := 2) (d := some 40) (v := ?_) rfl rfl (by kernel_rfl) (by kernel_rfl) (by kernel_rfl) (fun _ _ _ h => h) (Or.inl ⟨by first | rfl | (simp [*, Region.wanted, yielded]), ?hyb2⟩) (by assumption) ?restb2
          case hyb2 => (intro w hSw; (try dsimp only at hSw); go_simp <;> with_reducible rfl)
          try simp only [Act.put, List.setIfInBounds_toArray, List.set_cons_zero, List.set_cons_succ]
          refine take_d (i := 3) (d := some 41) (v := ?_) rfl rfl (by kernel_rfl) (by kernel_rfl) (by kernel_rfl) (fun _ _ _ h => h) (Or.inl ⟨by first | rfl | (simp [*, Region.wanted, yielded]), ?hyb3⟩) (by assumption) ?restb3
          case hyb3 => (intro w hSw; (try dsimp only at hSw); go_simp <;> with_reducible rfl)
          try simp only [Act.put, List.setIfInBounds_toArray, List.set_cons_zero, List.set_cons_succ]
          refine take_d (i := 5) (d := some 43) (v := ?_) rfl rfl (by kernel_rfl) (by kernel_rfl) (by kernel_rfl) (fun _ _ _ h => h) (Or.inl ⟨by first | rfl | (simp [*, Region.wanted, yielded]), ?hyb4⟩) (by assumption) ?restb4
          case hyb4 => (intro w hSw; (try dsimp only at hSw); go_simp <;> with_reducible rfl)
          try simp only [Act.put, List.setIfInBounds_toArray, List.set_cons_zero, List.set_cons_succ]
          refine take_d (i := 6) (d := some 44) (v := ?_) rfl rfl (by kernel_rfl) (by kernel_rfl) (by kernel_rfl) (fun _ _ _ h => h) (Or.inl ⟨by first | rfl | (simp [*, Region.wanted, yielded]), ?hyb5⟩) (by assumption) ?restb5
          case hyb5 => (intro w hSw; (try dsimp only at hSw); go_simp <;> with_reducible rfl)
          try simp only [Act.put, List.setIfInBounds_toArray, List.set_cons_zero, List.set_cons_succ]
          refine wpAnyH_ready (rs := [1, 4]) (by kernel_rfl) (by simp) ?_
          refine AllReadyH.cons (o := _) rfl (fun K hK => ?_) (AllReadyH.cons (o := _) rfl (fun K hK => ?_) AllReadyH.nil)
          · obtain ⟨cg, cf⟩ := HG.out _ hr1.drew
            go_simp
            go_wp2_with fail
            refine hK.out _ _ (HS.out _ (by repeat (first | exact hr1 | exact pB | exact pA | apply Below.drew | (refine Below.alloc ?_ (by first | exact Below.size (by assumption) | omega | (simp; done) | (simp; omega)) _)))) (fun hHeld => ?_)
            clear hK K
            try simp only [Act.put, List.setIfInBounds_toArray, List.set_cons_zero, List.set_cons_succ]
            refine wpAnyH_ready (rs := [4]) (by kernel_rfl) (by simp) ?_
            refine AllReadyH.cons (o := _) rfl (fun K hK => ?_) AllReadyH.nil
            go_simp
            refine (HAs.out _ (by repeat (first | exact hr1 | exact pB | exact pA | apply Below.drew | (refine Below.alloc ?_ (by first | exact Below.size (by assumption) | omega | (simp; done) | (simp; omega)) _)))).mono ?_
            rintro en wA ⟨pA, A5, c5, rfl, IA⟩
            go_wp2_with fail
            refine hK.out _ _ (HS.out _ pA) (fun hHeld => ?_)
            clear hK K
            try simp only [Act.put, List.setIfInBounds_toArray, List.set_cons_zero, List.set_cons_succ]
            refine take_d (i := 7) (d := some 45) (v := ?_) rfl rfl (by kernel_rfl) (by kernel_rfl) (by kernel_rfl) (fun _ _ _ h => h) (Or.inl ⟨by first | rfl | (simp [*, Region.wanted, yielded]), ?hyb6⟩) (by assumption) ?restb6
            case hyb6 => (intro w hSw; (try dsimp only at hSw); go_simp <;> with_reducible rfl)
            try simp only [Act.put, List.setIfInBounds_toArray, List.set_cons_zero, List.set_cons_succ]
            refine wpAnyH_ready (rs := [8]) (by kernel_rfl) (by simp) ?_
            refine AllReadyH.cons (o := _) rfl (fun K hK => ?_) AllReadyH.nil
            go_simp
            go_wp2_with fail
            refine hK.out _ _ (HS.out _ (by repeat (first | exact hr1 | exact pB | exact pA | apply Below.drew | (refine Below.alloc ?_ (by first | exact Below.size (by assumption) | omega | (simp; done) | (simp; omega)) _)))) (fun hHeld => ?_)
            clear hK K
            try simp only [Act.put, List.setIfInBounds_toArray, List.set_cons_zero, List.set_cons_succ]
            refine wpAnyH_ready (rs := [9]) (by kernel_rfl) (by simp) ?_
            refine AllReadyH.cons (o := _) rfl (fun K hK => ?_) AllReadyH.nil
            have pX := pA.alloc pA.size (.cells #[.slice A5 ps.length c5, .int .i64 tt] 55)
            obtain ⟨cl, hrow, HCL⟩ := HR5.out.rows pX
            have OA : CelO (wA.alloc (.cells #[.slice A5 ps.length c5, .int .i64 tt] 55)) w5.heap.size (.slice A5 ps.length c5) (.inl ps) := (show CelO wA _ _ (.inl ps) from IA.out).below ((Below.refl _ _).alloc (Nat.le_refl _) _)
            have OB : CelO (wA.alloc (.cells #[.slice A5 ps.length c5, .int .i64 tt] 55)) w5.heap.size (.int .i64 tt) (.inr tt) := rfl
            have D12 : Diff (.slice A5 ps.length c5) (.int .i64 tt) := Diff.int_r _ _ _
            refine step_append_lies _ rfl _ _ 23 rfl M 55 j0 (.agg #[.slice none 0 0, .int .i64 0]) 2 32 Try.underlying23 hjnf hy0 hy1 hy2 rfl (by decide) u k cl (by rfl) (by exact hrow) ⟨wA.heap.size, 0, none⟩ 1 1 [.slice A5 ps.length c5, .int .i64 tt] (by rfl) rfl (World.news_of_block (cs := #[.slice A5 ps.length c5, .int .i64 tt]) (t := 55) (fr := (0, 0)) (heap_alloc_new wA _)) (by simp [Value.oneCell']) (by decide) (by unfold maxLen; omega) (by omega) (by have := pA.size; simp; omega) _ rfl ?_
            intro g4 cap4 w4 hown4 hgrow4 hat4 hlt4
            have hvr := HR5.out.lt
            have p4 : Below (w.heap.size + 3) w5 w4 := (pX.mono (by omega)).grown hgrow4 (by have := pA.size; simp; omega) (fun q hq => by have := (hvr q hq).1; omega)
            have HN := hid (RowO.push (w := w5) (m := w5.heap.size) (by decide) HCL.out.1 HCL.out.2 hrow pX (Nat.le_refl _) (by omega) OA OB D12 hown4 hgrow4)
            have HIN := hid ((HI5.out.below pX).grown hrow (by decide) (by decide) hgrow4)
            have HX4 := hid (HC5.out.keep p4)
            have hs4 : w5.heap.size ≤ w4.heap.size := p4.size
            have hK4 : w4.cell? ⟨wr.heap.size, 0, none⟩ = some (.slice A ps.length c) ∧ w4.cell? ⟨wr.heap.size, 1, none⟩ = some (.int .i64 tt) := by obtain ⟨k0, k1⟩ := HS.out _ pX; have hne : u.ownBlock ≠ some wr.heap.size := fun e => (by have := (HRlt.out _ e).2; omega); exact ⟨(World.cell?_of_block (hgrow4.block wr.heap.size (cell_lt k0) (fun e => hne e.symm))).trans k0, (World.cell?_of_block (hgrow4.block wr.heap.size (cell_lt k1) (fun e => hne e.symm))).trans k1⟩
            clear hown4 hgrow4 hat4 hrow HCL OA OB D12 hvr
            refine hK.out _ _ hK4 (fun hHeld => ?_)
            clear hK K
            try simp only [Act.put, List.setIfInBounds_toArray, List.set_cons_zero, List.set_cons_succ]
            refine take_d (i := 10) (d := some 48) (v := ?_) rfl rfl (by kernel_rfl) (by kernel_rfl) (by kernel_rfl) (fun _ _ _ h => h) (Or.inl ⟨by first | rfl | (simp [*, Region.wanted, yielded]), ?hyb7⟩) (by assumption) ?restb7
            case hyb7 => (intro w hSw; (try dsimp only at hSw); go_simp <;> with_reducible rfl)
            try simp only [Act.put, List.setIfInBounds_toArray, List.set_cons_zero, List.set_cons_succ]
            refine wpAnyH_ready (rs := [11]) (by kernel_rfl) (by simp) ?_
            refine AllReadyH.cons (o := _) rfl (fun K hK => ?_) AllReadyH.nil
            have cg4 := HX4.out.c2
            have cf4 := HX4.out.cf 2 (by omega)
            go_simp
            go_wp2_with fail
            refine hK.out _ _ (by obtain ⟨k0, k1⟩ := hK4; exact ⟨by go_simp, by go_simp⟩) (fun hHeld => ?_)
            clear hK K
            try simp only [Act.put, List.setIfInBounds_toArray, List.set_cons_zero, List.set_cons_succ]
            refine wpAnyH_done (by kernel_rfl) ?_ _
            go_simp
            go_simp
            go_wp2
            go_roundw
            case rel => exact ⟨k + 1, _, by omega, by go_num, HX4.out.put2 _, HIN.out.setCell _ _ (by show w.heap.size + 2 < _; omega), by rw [HTk.out, csR_snoc]; exact HN.out.setCell _ _ (by show w.heap.size + 2 < _; omega), by simp; omega⟩
            case measure => simp [intOf]; omega
          · go_simp
            refine (HAs.out _ (by repeat (first | exact hr1 | exact pB | exact pA | apply Below.drew | (refine Below.alloc ?_ (by first | exact Below.size (by assumption) | omega | (simp; done) | (simp; omega)) _)))).mono ?_
            rintro en wA ⟨pA, A5, c5, rfl, IA⟩
            go_wp2_with fail
            refine hK.out _ _ (HS.out _ pA) (fun hHeld => ?_)
            clear hK K
            try simp only [Act.put, List.setIfInBounds_toArray, List.set_cons_zero, List.set_cons_succ]
            refine take_d (i := 7) (d := some 45) (v := ?_) rfl rfl (by kernel_rfl) (by kernel_rfl) (by kernel_rfl) (fun _ _ _ h => h) (Or.inl ⟨by first | rfl | (simp [*, Region.wanted, yielded]), ?hyb8⟩) (by assumption) ?restb8
            case hyb8 => (intro w hSw; (try dsimp only at hSw); go_simp <;> with_reducible rfl)
            try simp only [Act.put, List.setIfInBounds_toArray, List.set_cons_zero, List.set_cons_succ]
            refine wpAnyH_ready (rs := [1, 8]) (by kernel_rfl) (by simp) ?_
            refine AllReadyH.cons (o := _) rfl (fun K hK => ?_) (AllReadyH.cons (o := _) rfl (fun K hK => ?_) AllReadyH.nil)
            · obtain ⟨cg, cf⟩ := HG.out _ pA
              go_simp
              go_wp2_with fail
              refine hK.out _ _ (HS.out _ (by repeat (first | exact hr1 | exact pB | exact pA | apply Below.drew | (refine Below.alloc ?_ (by first | exact Below.size (by assumption) | omega | (simp; done) | (simp; omega)) _)))) (fun hHeld => ?_)
              clear hK K
              try simp only [Act.put, List.setIfInBounds_toArray, List.set_cons_zero, List.set_cons_succ]
              refine wpAnyH_ready (rs := [8]) (by kernel_rfl) (by simp) ?_
              refine AllReadyH.cons (o := _) rfl (fun K hK => ?_) AllReadyH.nil
              go_simp
              go_wp2_with fail
              refine hK.out _ _ (HS.out _ (by repeat (first | exact hr1 | exact pB | exact pA | apply Below.drew | (refine Below.alloc ?_ (by first | exact Below.size (by assumption) | omega | (simp; done) | (simp; omega)) _)))) (fun hHeld => ?_)
              clear hK K
              try simp only [Act.put, List.setIfInBounds_toArray, List.set_cons_zero, List.set_cons_succ]
              refine wpAnyH_ready (rs := [9]) (by kernel_rfl) (by simp) ?_
              refine AllReadyH.cons (o := _) rfl (fun K hK => ?_) AllReadyH.nil
              have pX := pA.alloc pA.size (.cells #[.slice A5 ps.length c5, .int .i64 tt] 55)
              obtain ⟨cl, hrow, HCL⟩ := HR5.out.rows pX
              have OA : CelO (wA.alloc (.cells #[.slice A5 ps.length c5, .int .i64 tt] 55)) w5.heap.size (.slice A5 ps.length c5) (.inl ps) := (show CelO wA _ _ (.inl ps) from IA.out).below ((Below.refl _ _).alloc (Nat.le_refl _) _)
              have OB : CelO (wA.alloc (.cells #[.slice A5 ps.length c5, .int .i64 tt] 55)) w5.heap.size (.int .i64 tt) (.inr tt) := rfl
              have D12 : Diff (.slice A5 ps.length c5) (.int .i64 tt) := Diff.int_r _ _ _
              refine step_append_lies _ rfl _ _ 23 rfl M 55 j0 (.agg #[.slice none 0 0, .int .i64 0]) 2 32 Try.underlying23 hjnf hy0 hy1 hy2 rfl (by decide) u k cl (by rfl) (by exact hrow) ⟨wA.heap.size, 0, none⟩ 1 1 [.slice A5 ps.length c5, .int .i64 tt] (by rfl) rfl (World.news_of_block (cs := #[.slice A5 ps.length c5, .int .i64 tt]) (t := 55) (fr := (0, 0)) (heap_alloc_new wA _)) (by simp [Value.oneCell']) (by decide) (by unfold maxLen; omega) (by omega) (by have := pA.size; simp; omega) _ rfl ?_
              intro g4 cap4 w4 hown4 hgrow4 hat4 hlt4
              have hvr := HR5.out.lt
              have p4 : Below (w.heap.size + 3) w5 w4 := (pX.mono (by omega)).grown hgrow4 (by have := pA.size; simp; omega) (fun q hq => by have := (hvr q hq).1; omega)
              have HN := hid (RowO.push (w := w5) (m := w5.heap.size) (by decide) HCL.out.1 HCL.out.2 hrow pX (Nat.le_refl _) (by omega) OA OB D12 hown4 hgrow4)
              have HIN := hid ((HI5.out.below pX).grown hrow (by decide) (by decide) hgrow4)
              have HX4 := hid (HC5.out.keep p4)
              have hs4 : w5.heap.size ≤ w4.heap.size := p4.size
              have hK4 : w4.cell? ⟨wr.heap.size, 0, none⟩ = some (.slice A ps.length c) ∧ w4.cell? ⟨wr.heap.size, 1, none⟩ = some (.int .i64 tt) := by obtain ⟨k0, k1⟩ := HS.out _ pX; have hne : u.ownBlock ≠ some wr.heap.size := fun e => (by have := (HRlt.out _ e).2; omega); exact ⟨(World.cell?_of_block (hgrow4.block wr.heap.size (cell_lt k0) (fun e => hne e.symm))).trans k0, (World.cell?_of_block (hgrow4.block wr.heap.size (cell_lt k1) (fun e => hne e.symm))).trans k1⟩
              clear hown4 hgrow4 hat4 hrow HCL OA OB D12 hvr
              refine hK.out _ _ hK4 (fun hHeld => ?_)
              clear hK K
              try simp only [Act.put, List.setIfInBounds_toArray, List.set_cons_zero, List.set_cons_succ]
              refine take_d (i := 10) (d := some 48) (v := ?_) rfl rfl (by kernel_rfl) (by kernel_rfl) (by kernel_rfl) (fun _ _ _ h => h) (Or.inl ⟨by first | rfl | (simp [*, Region.wanted, yielded]), ?hyb9⟩) (by assumption) ?restb9
              case hyb9 => (intro w hSw; (try dsimp only at hSw); go_simp <;> with_reducible rfl)
              try simp only [Act.put, List.setIfInBounds_toArray, List.set_cons_zero, List.set_cons_succ]
              refine wpAnyH_ready (rs := [11]) (by kernel_rfl) (by simp) ?_
              refine AllReadyH.cons (o := _) rfl (fun K hK => ?_) AllReadyH.nil
              have cg4 := HX4.out.c2
              have cf4 := HX4.out.cf 2 (by omega)
              go_simp
              go_wp2_with fail
              refine hK.out _ _ (by obtain ⟨k0, k1⟩ := hK4; exact ⟨by go_simp, by go_simp⟩) (fun hHeld => ?_)
              clear hK K
              try simp only [Act.put, List.setIfInBounds_toArray, List.set_cons_zero, List.set_cons_succ]
              refine wpAnyH_done (by kernel_rfl) ?_ _
              go_simp
              go_simp
              go_wp2
              go_roundw
              case rel => exact ⟨k + 1, _, by omega, by go_num, HX4.out.put2 _, HIN.out.setCell _ _ (by show w.heap.size + 2 < _; omega), by rw [HTk.out, csR_snoc]; exact HN.out.setCell _ _ (by show w.heap.size + 2 < _; omega), by simp; omega⟩
              case measure => simp [intOf]; omega
            · go_simp
              go_wp2_with fail
              refine hK.out _ _ (HS.out _ (by repeat (first | exact hr1 | exact pB | exact pA | apply Below.drew | (refine Below.alloc ?_ (by first | exact Below.size (by assumption) | omega | (simp; done) | (simp; omega)) _)))) (fun hHeld => ?_)
              clear hK K
              try simp only [Act.put, List.setIfInBounds_toArray, List.set_cons_zero, List.set_cons_succ]
              refine wpAnyH_ready (rs := [1]) (by kernel_rfl) (by simp) ?_
              refine AllReadyH.cons (o := _) rfl (fun K hK => ?_) AllReadyH.nil
              obtain ⟨cg, cf⟩ := HG.out _ (pA.alloc pA.size (.cells #[.slice A5 ps.length c5, .int .i64 tt] 55))
              go_simp
              go_wp2_with fail
              refine hK.out _ _ (HS.out _ (by repeat (first | exact hr1 | exact pB | exact pA | apply Below.drew | (refine Below.alloc ?_ (by first | exact Below.size (by assumption) | omega | (simp; done) | (simp; omega)) _)))) (fun hHeld => ?_)
              clear hK K
              try simp only [Act.put, List.setIfInBounds_toArray, List.set_cons_zero, List.set_cons_succ]
              refine wpAnyH_ready (rs := [9]) (by kernel_rfl) (by simp) ?_
              refine AllReadyH.cons (o := _) rfl (fun K hK => ?_) AllReadyH.nil
              have pX := pA.alloc pA.size (.cells #[.slice A5 ps.length c5, .int .i64 tt] 55)
              obtain ⟨cl, hrow, HCL⟩ := HR5.out.rows pX
              have OA : CelO (wA.alloc (.cells #[.slice A5 ps.length c5, .int .i64 tt] 55)) w5.heap.size (.slice A5 ps.length c5) (.inl ps) := (show CelO wA _ _ (.inl ps) from IA.out).below ((Below.refl _ _).alloc (Nat.le_refl _) _)
              have OB : CelO (wA.alloc (.cells #[.slice A5 ps.length c5, .int .i64 tt] 55)) w5.heap.size (.int .i64 tt) (.inr tt) := rfl
              have D12 : Diff (.slice A5 ps.length c5) (.int .i64 tt) := Diff.int_r _ _ _
              refine step_append_lies _ rfl _ _ 23 rfl M 55 j0 (.agg #[.slice none 0 0, .int .i64 0]) 2 32 Try.underlying23 hjnf hy0 hy1 hy2 rfl (by decide) u k cl (by rfl) (by exact hrow) ⟨wA.heap.size, 0, none⟩ 1 1 [.slice A5 ps.length c5, .int .i64 tt] (by rfl) rfl (World.news_of_block (cs := #[.slice A5 ps.length c5, .int .i64 tt]) (t := 55) (fr := (0, 0)) (heap_alloc_new wA _)) (by simp [Value.oneCell']) (by decide) (by unfold maxLen; omega) (by omega) (by have := pA.size; simp; omega) _ rfl ?_
              intro g4 cap4 w4 hown4 hgrow4 hat4 hlt4
              have hvr := HR5.out.lt
              have p4 : Below (w.heap.size + 3) w5 w4 := (pX.mono (by omega)).grown hgrow4 (by have := pA.size; simp; omega) (fun q hq => by have := (hvr q hq).1; omega)
              have HN := hid (RowO.push (w := w5) (m := w5.heap.size) (by decide) HCL.out.1 HCL.out.2 hrow pX (Nat.le_refl _) (by omega) OA OB D12 hown4 hgrow4)
              have HIN := hid ((HI5.out.below pX).grown hrow (by decide) (by decide) hgrow4)
              have HX4 := hid (HC5.out.keep p4)
              have hs4 : w5.heap.size ≤ w4.heap.size := p4.size
              have hK4 : w4.cell? ⟨wr.heap.size, 0, none⟩ = some (.slice A ps.length c) ∧ w4.cell? ⟨wr.heap.size, 1, none⟩ = some (.int .i64 tt) := by obtain ⟨k0, k1⟩ := HS.out _ pX; have hne : u.ownBlock ≠ some wr.heap.size := fun e => (by have := (HRlt.out _ e).2; omega); exact ⟨(World.cell?_of_block (hgrow4.block wr.heap.size (cell_lt k0) (fun e => hne e.symm))).trans k0, (World.cell?_of_block (hgrow4.block wr.heap.size (cell_lt k1) (fun e => hne e.symm))).trans k1⟩
              clear hown4 hgrow4 hat4 hrow HCL OA OB D12 hvr
              refine hK.out _ _ hK4 (fun hHeld => ?_)
              clear hK K
              try simp only [Act.put, List.setIfInBounds_toArray, List.set_cons_zero, List.set_cons_succ]
              refine take_d (i := 10) (d := some 48) (v := ?_) rfl rfl (by kernel_rfl) (by kernel_rfl) (by kernel_rfl) (fun _ _ _ h => h) (Or.inl ⟨by first | rfl | (simp [*, Region.wanted, yielded]), ?hyb10⟩) (by assumption) ?restb10
              case hyb10 => (intro w hSw; (try dsimp only at hSw); go_simp <;> with_reducible rfl)
              try simp only [Act.put, List.setIfInBounds_toArray, List.set_cons_zero, List.set_cons_succ]
              refine wpAnyH_ready (rs := [11]) (by kernel_rfl) (by simp) ?_
              refine AllReadyH.cons (o := _) rfl (fun K hK => ?_) AllReadyH.nil
              have cg4 := HX4.out.c2
              have cf4 := HX4.out.cf 2 (by omega)
              go_simp
              go_wp2_with fail
              refine hK.out _ _ (by obtain ⟨k0, k1⟩ := hK4; exact ⟨by go_simp, by go_simp⟩) (fun hHeld => ?_)
              clear hK K
              try simp only [Act.put, List.setIfInBounds_toArray, List.set_cons_zero, List.set_cons_succ]
              refine wpAnyH_done (by kernel_rfl) ?_ _
              go_simp
              go_simp
              go_wp2
              go_roundw
              case rel => exact ⟨k + 1, _, by omega, by go_num, HX4.out.put2 _, HIN.out.setCell _ _ (by show w.heap.size + 2 < _; omega), by rw [HTk.out, csR_snoc]; exact HN.out.setCell _ _ (by show w.heap.size + 2 < _; omega), by simp; omega⟩
              case measure => simp [intOf]; omega
        · obtain rfl : k = rls.length := by omega
          rw [List.take_length] at HRu
          have hnlt : ¬ (rls.length : Int) < (rls.length : Int) := by omega
          obtain ⟨A, c, rfl⟩ := HIt.out.form
          obtain ⟨R, d, rfl⟩ := HRu.out.form
          have hz := HC2.out.lt
          have HCE := hid HC2.out
          obtain ⟨b1, b2, r0, r1, r2, rf, e0, e1, e2, cf, bel⟩ := HC2.out
          have f0 := rf 0 (by omega)
          have f1 := rf 1 (by omega)
          have f2 := rf 2 (by omega)
          clear hlt hk rf cf bel b1 b2 HC2
          go_wp2
          refine bodyPost_ret (v := .agg #[.int .i64 P, .slice A its.length c, .slice R rls.length d]) (by simp [results, Try.results80, go_sem, r0, r1, r2]) rfl ⟨((HCE.out.bel.setCell (by show w.heap.size ≤ w.heap.size + 1; omega) _).setCell (by show w.heap.size ≤ w.heap.size + 1; omega) _).setCell (by show w.heap.size ≤ w.heap.size + 1; omega) _, A, c, R, d, rfl, M, hM3, ((HIt.out.setCell _ _ (by show w.heap.size + 1 < _; omega)).setCell _ _ (by show w.heap.size + 1 < _; omega)).setCell _ _ (by show w.heap.size + 1 < _; omega), ((HRu.out.setCell _ _ (by show w.heap.size + 1 < _; omega)).setCell _ _ (by show w.heap.size + 1 < _; omega)).setCell _ _ (by show w.heap.size + 1 < _; omega)⟩
set_option maxHeartbeats 1000000 in
theorem copyOf_any (P : Int) (ia : Option Addr) (its : List ItemL) (ic : Nat) (ra : Option Addr) (rls : List RuleL) (rc : Nat) (w : World) (h : BookAt w P ia its ra rls) (hli : its.length ≤ 1000) (hlit : ∀ i, i < its.length → (its[i]?.getD ([], [])).1.length ≤ 1000 ∧ (its[i]?.getD ([], [])).2.length ≤ 1000) (hl : rls.length ≤ 1000) (hls : ∀ i, i < rls.length → (rls[i]?.getD ([], 0)).1.length ≤ 1000) :
  Calls Try.prog 80 #[.agg #[.int .i64 P, .slice ia its.length ic, .slice ra rls.length rc]] w (fun en w' => Below w.heap.size w w' ∧ ∃ A c R d, en = .returned (.agg #[.int .i64 P, .slice A its.length c, .slice R rls.length d]) ∧ RowO w' (w.heap.size + 3) 76 (csI its) its.length (.slice A its.length c) ∧ RowO w' (w.heap.size + 3) 55 (csR rls) rls.length (.slice R rls.length d)) := by
  refine (copyOfU_any P ia its ic ra rls rc w h hli hlit hl hls).mono ?_
  rintro en w' ⟨hb, A, c, R, d, M, he, hM, h1, h2⟩
  exact ⟨hb, A, c, R, d, he, h1.toO, h2.weak hM⟩
end Go.Proofs.Ytdgleicpcjfnoaa
