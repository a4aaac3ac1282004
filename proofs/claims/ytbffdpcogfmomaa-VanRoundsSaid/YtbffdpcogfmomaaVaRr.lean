/- Round, the document's: chapter 8. -/
import Derived.Test.YtbffdpcogfmomaaVaRo
import Derived.Test.YtbffdpcogfmomaaOrdW
import Derived.Test.YtbffdpcogfmomaaVaRL
import Derived.Test.YtbffdpcogfmomaaTakeD
import Derived.Deep.Cut
import Derived.Deep.CutRange
set_option linter.unusedVariables false
set_option linter.unusedSimpArgs false
namespace Go.Proofs.Ytbffdpcogfmomaa
open Go.RowKit

theorem own_src {w : World} {base g n c : Nat} {xs : List Int} (h : Own w base (.slice (some ⟨g, 0, none⟩) n c) xs) : SrcZ w (some ⟨g, 0, none⟩) xs := by
  obtain ⟨_, _, hp⟩ := own_place h
  rcases hp with ⟨e, _⟩ | ⟨g', e, _, _, hg⟩
  · cases e
  · simp only [Option.some.injEq, Addr.mk.injEq, and_true] at e
    subst e
    have := src_take hg xs.length
    rwa [List.take_length] at this
theorem tourE_more {T : List Int} {n s : Nat} (hok : StopsOk T n) (hnd : T.Nodup) (hs : 1 ≤ s ∧ s < n) : tourE (T ++ [(s : Int)]) n = 0 ↔ (s : Int) ∉ T := by
  rw [tourE_iff]
  constructor
  · rintro ⟨_, h2⟩ hm
    rw [List.nodup_append] at h2
    exact h2.2.2 _ hm _ (by simp) rfl
  · intro h
    refine ⟨fun x hx => ?_, ?_⟩
    · rcases List.mem_append.1 hx with hx | hx
      · exact hok x hx
      · simp at hx; subst hx; omega
    · rw [List.nodup_append]
      refine ⟨hnd, by simp, fun a ha b hb => ?_⟩
      simp at hb; subst hb
      exact fun e => h (e ▸ ha)
set_option maxRecDepth 100000 in
set_option maxHeartbeats 8000000 in
theorem rRound_any (a : Option Addr) (t : Tbl) (x : Int) (cap : Nat) (w : World) (h : TabAt w a t) : Calls Try.prog 28 #[.slice a t.length cap, .int .i64 x] w (RndR t x w) := by
  obtain ⟨i0, hinf, hz0, hz1, hz2⟩ := info_parts int_info
  have HV := hid (rValidate_any a t cap w h)
  by_cases hv : vaV t = 0
  · have ht := (ways_iff t).1 hv
    have hl7 := ht.len
    have hpos := ht.pos
    rw [hv] at HV
    have HS := hid (fun (W : World) => rWithin8_any x 1 ((t.length : Int) - 1) W)
    have hpos' : (1 : Int) ≤ (t.length : Int) := by omega
    cases hz : zin x 1 ((t.length : Int) - 1) with
    | false =>
      have HE := hid (show rndE t x = 5 by unfold rndE; rw [if_pos hv, if_neg (by simp [hz])])
      rw [hz] at HS
      clear h hv ht hz
      as_aux_lemma =>
        go_enter Try.func28, Try.ntmps28
        go_wp2_with fail
        refine HV.out.mono ?_
        rintro e w1 ⟨hb1, rfl⟩
        have HB1 := hid hb1
        clear hb1
        go_wp2_with fail
        refine (HS.out _).mono ?_
        rintro e w2 ⟨rfl, rfl⟩
        go_wp2
        go_ret2
        exact ⟨HB1.out, .inl ⟨by rw [HE.out]; decide, by rw [HE.out]; rfl⟩⟩
    | true =>
      have HE := hid (show rndE t x = 0 by unfold rndE; rw [if_pos hv, if_pos hz])
      have hx : 1 ≤ x ∧ x < t.length := by simp [zin] at hz; omega
      rw [hz] at HS
      have HT := hid h
      have HWy := hid ht
      have HRt := hid (RoundTo.start t t.length x hx)
      have HLe1 := hid (show [x].length ≤ t.length - 1 by simp; omega)
      clear h hv ht hz
      go_enter Try.func28, Try.ntmps28
      go_wp2_with fail
      refine HV.out.mono ?_
      rintro e w1 ⟨hb1, rfl⟩
      have HB1 := hid hb1
      clear hb1 HV
      go_wp2_with fail
      refine (HS.out _).mono ?_
      rintro e w2 ⟨rfl, rfl⟩
      have hal := (Below.refl w1.heap.size w1).alloc (Nat.le_refl _) (.cells #[.int .i64 x] 3)
      have hO : Own (w1.alloc (.cells #[.int .i64 x] 3)) w1.heap.size (.slice (some ⟨w1.heap.size, 0, none⟩) 1 1) [x] := World.ownsRow_lit w1 #[.int .i64 x] 1 (Nat.le_refl _) (by decide) rfl
      have HB2 := hid (HB1.out.trans (hal.mono HB1.out.size))
      have HO := hid (own_weak hO HB1.out.size)
      clear hal hO
      go_wp2_with fail
      go_loopw [7] (fun s7 wr => ∃ (T : List Int) (g c : Nat), s7 = .slice (some ⟨g, 0, none⟩) T.length c ∧ Hid (Own wr w.heap.size (.slice (some ⟨g, 0, none⟩) T.length c) T) ∧ Hid (RoundTo t t.length x T) ∧ Hid (T.length ≤ t.length - 1) ∧ Hid (Below w.heap.size w wr)) (fun s7 _ => match s7 with | .slice _ n _ => t.length - n | _ => 0)
      case atStart => exact ⟨[x], w1.heap.size, 1, rfl, HO, HRt, HLe1, HB2⟩
      case round =>
        obtain ⟨T, go, co, rfl, HOw, HRn, HLe, HB⟩ := hrel
        generalize wr = w2 at *
        clear HO HRt HB2
        have hle := HLe.out
        have hpT := HRn.out.pos
        obtain ⟨tl, htl⟩ : ∃ tl, T.length = tl := ⟨_, rfl⟩
        have HTl := hid htl
        rw [htl] at hle hpT
        rw [htl]
        by_cases hlt : tl < t.length - 1
        · have ho := HOw.out
          rw [htl] at ho
          have HOT := hid ho
          have l0 := own_at ho (tl - 1) (by omega)
          have hyb := HRn.out.ok _ (vAt_mem (o := T) (k := tl - 1) (by omega))
          have HLast := hid (show lastP T T.length = vAt T (tl - 1) by rw [htl]; unfold lastP; rw [if_neg (by omega)])
          obtain ⟨y, hy⟩ : ∃ y, vAt T (tl - 1) = y := ⟨_, rfl⟩
          rw [hy] at l0 hyb HLast
          obtain ⟨yn, rfl⟩ := Int.eq_ofNat_of_zero_le (show 0 ≤ y by omega)
          obtain ⟨k, rfl⟩ : ∃ k, tl = k + 1 := ⟨tl - 1, by omega⟩
          rw [show k + 1 - 1 = k by omega] at l0
          have q1 : (k : Int) < ((k + 1 : Nat) : Int) := by omega
          have hlt' : (k : Int) + 1 < (t.length : Int) - 1 := by omega
          have hlt'' : decide ((k : Int) + 1 < (t.length : Int) - 1) = true := decide_eq_true hlt'
          have hk6 : k + 1 ≤ 6 := by omega
          have hwb := HB.out.size
          clear ho hy htl hpT hle HOw
          go_wp2_with fail
          go_quiet (fail)
          have HB3 := hid (below_drewN HB.out nq)
          have HX3 := hid (below_drewN (Below.refl w2.heap.size w2) nq)
          have HO3 := hid (HOT.out.below HX3.out)
          generalize w2.drewN nq = w3 at *
          have HBst := hid (BestTo.start t t.length T)
          clear l0 HOT HB hlt' hlt''
          go_wp2_with fail
          go_loopw [8, 10] (fun s8 s10 wr => ∃ (best : Int) (s : Nat), 1 ≤ s ∧ s ≤ t.length ∧ s8 = .int .i64 best ∧ s10 = .int .i64 (s : Int) ∧ Hid (BestTo t t.length T s best) ∧ Hid (Below w3.heap.size w3 wr)) (fun _ s10 _ => t.length - (intOf s10).toNat)
          case atStart => exact ⟨-1, 1, Nat.le_refl _, hpos, rfl, rfl, HBst, Below.refl _ _⟩
          case round =>
            obtain ⟨best, s, hs1, hsn, rfl, rfl, HBe, HX⟩ := hrel
            by_cases hsl : s < t.length
            · have q2 : (s : Int) < (t.length : Int) := by omega
              have q3 : (yn : Int) < (t.length : Int) := hyb.2
              have hwr := HX.out.size
              have HSrc := hid (fun (W : World) (hb : Below wr.heap.size wr W) => own_src ((HO3.out.below HX.out).below hb))
              have HTs := hid (show (T ++ [(s : Int)]).length = (k + 1) + 1 by rw [List.length_append, HTl.out]; rfl)
              have HTb := hid (fun z (hz : z ∈ T ++ [(s : Int)]) => (show -9223372036854775808 ≤ z ∧ z ≤ 9223372036854775807 from by
                rcases List.mem_append.1 hz with hz | hz
                · have := HRn.out.ok z hz; omega
                · simp at hz; subst hz; omega))
              have HIs := hid (fun (W : World) (A9 : Option Addr) (c9 : Nat) (hI : Ints W A9 (T ++ [(s : Int)])) => (show Calls Try.prog 56 #[.slice a t.length cap, .slice A9 ((k + 1) + 1) c9] W (IntR W (tourE (T ++ [(s : Int)]) t.length)) from by
                have := rIsTour_any a A9 t (T ++ [(s : Int)]) cap c9 W hI hl7
                rw [HTs.out] at this
                exact this))
              have hte := tourE_more HRn.out.ok HRn.out.nd (show 1 ≤ s ∧ s < t.length from ⟨hs1, hsl⟩)
              obtain ⟨e9, he9⟩ : ∃ e9, tourE (T ++ [(s : Int)]) t.length = e9 := ⟨_, rfl⟩
              rw [he9] at HIs hte
              have hr : Below wr.heap.size wr wr := Below.refl _ _
              obtain ⟨tl, htl9⟩ : ∃ tl, k + 1 = tl := ⟨_, rfl⟩
              have hTl9 := HTl.out
              rw [htl9] at HIs HTs hTl9
              have HTl := hid hTl9
              have htl6 : tl ≤ 6 := by omega
              rw [htl9]
              clear he9 hTl9
              go_upto_region 12 with (fail)
              go_cut [71] from 42 to 71 (fun s71 wx => ∃ cc : Bool, s71 = .bool cc ∧ Hid (cc = true → BestTo t t.length T (s + 1) (s : Int)) ∧ Hid (cc = false → BestTo t t.length T (s + 1) best) ∧ Hid (Below wr.heap.size wr wx))
              case first =>
                by_cases hin : (s : Int) ∈ T
                · have he : (e9 == 0) = false := by simp; exact fun e => (hte.1 e) hin
                  have HTr := hid (fun (h : false = true) => (show BestTo t t.length T (s + 1) (s : Int) from by cases h))
                  have HFa := hid (fun (_ : false = false) => HBe.out.skip hin)
                  have HKp := hid (fun (W : World) (hb : Below wr.heap.size wr W) => hb)
                  clear hte hin htl9
                  refine wp_region_held_drew (S := (fun w' => Below wr.heap.size wr w')) (by kernel_rfl) (HKp.out _ hr.drew) (fun hHeld => ?_)
                  refine take_d (i := 0) (d := some 42) (v := ?_) rfl rfl (by kernel_rfl) (by kernel_rfl) (by kernel_rfl) (fun _ _ _ h => h) (Or.inl ⟨by first | rfl | (simp [*, Region.wanted, yielded]), ?hya1⟩) (by assumption) ?resta1
                  case hya1 => (intro w hSw; (try dsimp only at hSw); go_simp <;> with_reducible rfl)
                  try simp only [Act.put, List.setIfInBounds_toArray, List.set_cons_zero, List.set_cons_succ]
                  refine take_d (i := 2) (d := some 44) (v := ?_) rfl rfl (by kernel_rfl) (by kernel_rfl) (by kernel_rfl) (fun _ _ _ h => h) (Or.inl ⟨by first | rfl | (simp [*, Region.wanted, yielded]), ?hya2⟩) (by assumption) ?resta2
                  case hya2 => (intro w hSw; (try dsimp only at hSw); go_simp <;> with_reducible rfl)
                  try simp only [Act.put, List.setIfInBounds_toArray, List.set_cons_zero, List.set_cons_succ]
                  refine take_d (i := 4) (d := some 46) (v := ?_) rfl rfl (by kernel_rfl) (by kernel_rfl) (by kernel_rfl) (fun _ _ _ h => h) (Or.inl ⟨by first | rfl | (simp [*, Region.wanted, yielded]), ?hya3⟩) (by assumption) ?resta3
                  case hya3 => (intro w hSw; (try dsimp only at hSw); go_simp <;> with_reducible rfl)
                  try simp only [Act.put, List.setIfInBounds_toArray, List.set_cons_zero, List.set_cons_succ]
                  refine wpAnyH_ready (rs := [1, 5]) (by kernel_rfl) (by simp) ?_
                  refine AllReadyH.cons (o := _) rfl (fun K hK => ?_) (AllReadyH.cons (o := _) rfl (fun K hK => ?_) AllReadyH.nil)
                  · go_simp
                    go_wp2_with fail
                    refine hK.out _ _ (HKp.out _ (by repeat (first | exact hr | exact p3 | exact p6 | apply Below.drew | (refine Below.alloc ?_ (by first | exact Below.size (by assumption) | omega | (simp; done) | (simp; omega)) _)))) (fun hHeld => ?_)
                    clear hK K
                    try simp only [Act.put, List.setIfInBounds_toArray, List.set_cons_zero, List.set_cons_succ]
                    refine wpAnyH_ready (rs := [3, 5]) (by kernel_rfl) (by simp) ?_
                    refine AllReadyH.cons (o := _) rfl (fun K hK => ?_) (AllReadyH.cons (o := _) rfl (fun K hK => ?_) AllReadyH.nil)
                    · refine step_append_srcZ (by rfl) _ _ 23 (by rfl) wr.heap.size i0 Try.underlying23 hinf hz0 hz1 hz2 _ [] (by rfl) (zown_empty (by repeat (first | (with_reducible exact zblk_new _ _ _ (by first | rfl | (simp; done))) | (with_reducible refine zblk_alloc _ ?_) | (with_reducible refine zblk_drew ?_))) (by first | omega | (simp; done) | (simp; omega))) (some ⟨go, 0, none⟩) tl co T (by rfl) HTl.out (HSrc.out _ (by repeat (first | exact hr | exact p3 | exact p6 | apply Below.drew | (refine Below.alloc ?_ (by first | exact Below.size (by assumption) | omega | (simp; done) | (simp; omega)) _)))) (by simp; omega) (by first | omega | (simp; done) | (simp; omega)) ?_
                      intro v3 w3 hown3 hgrow3
                      have p3 : Below wr.heap.size wr w3 := Below.grown (by repeat (first | exact hr | exact p3 | exact p6 | apply Below.drew | (refine Below.alloc ?_ (by first | exact Below.size (by assumption) | omega | (simp; done) | (simp; omega)) _))) hgrow3 (by first | omega | (simp; done) | (simp; omega)) (zemp_ge (by first | omega | (simp; done) | (simp; omega)))
                      simp only [List.nil_append] at hown3
                      have z3 := p3.size
                      have y3 := hgrow3.size
                      refine hK.out _ _ (HKp.out _ p3) (fun hHeld => ?_)
                      clear hK K
                      try simp only [Act.put, List.setIfInBounds_toArray, List.set_cons_zero, List.set_cons_succ]
                      refine wpAnyH_ready (rs := [5]) (by kernel_rfl) (by simp) ?_
                      refine AllReadyH.cons (o := _) rfl (fun K hK => ?_) AllReadyH.nil
                      go_simp
                      go_wp2_with fail
                      refine hK.out _ _ (HKp.out _ (by repeat (first | exact hr | exact p3 | exact p6 | apply Below.drew | (refine Below.alloc ?_ (by first | exact Below.size (by assumption) | omega | (simp; done) | (simp; omega)) _)))) (fun hHeld => ?_)
                      clear hK K
                      try simp only [Act.put, List.setIfInBounds_toArray, List.set_cons_zero, List.set_cons_succ]
                      refine wpAnyH_ready (rs := [6]) (by kernel_rfl) (by simp) ?_
                      refine AllReadyH.cons (o := _) rfl (fun K hK => ?_) AllReadyH.nil
                      refine step_append_srcZ (by rfl) _ _ 23 (by rfl) wr.heap.size i0 Try.underlying23 hinf hz0 hz1 hz2 v3 T (by rfl) (by repeat (first | (with_reducible exact hown3) | (with_reducible refine zown_alloc ?_ _) | (with_reducible refine zown_drew ?_))) _ 1 _ [(s : Int)] (by rfl) (by rfl) (zsrc_one (by repeat (first | (with_reducible exact zblk_new _ _ _ (by first | rfl | (simp; done))) | (with_reducible refine zblk_alloc _ ?_) | (with_reducible refine zblk_drew ?_) | (with_reducible refine zblk_grown hgrow3 ?_ ?_) | (exact zemp_ne (by first | omega | (simp; done) | (simp; omega)))))) (by rw [HTl.out]; omega) (by first | omega | (simp; done) | (simp; omega)) ?_
                      intro v6 w6 hown6 hgrow6
                      have p6 : Below wr.heap.size wr w6 := Below.grown (by repeat (first | exact hr | exact p3 | exact p6 | apply Below.drew | (refine Below.alloc ?_ (by first | exact Below.size (by assumption) | omega | (simp; done) | (simp; omega)) _))) hgrow6 (by first | omega | (simp; done) | (simp; omega)) (zown_ge hown3)
                      refine hK.out _ _ (HKp.out _ p6) (fun hHeld => ?_)
                      clear hK K
                      try simp only [Act.put, List.setIfInBounds_toArray, List.set_cons_zero, List.set_cons_succ]
                      refine wpAnyH_ready (rs := [7]) (by kernel_rfl) (by simp) ?_
                      refine AllReadyH.cons (o := _) rfl (fun K hK => ?_) AllReadyH.nil
                      go_simp
                      obtain ⟨g9, c9, rfl, hg9⟩ := zown_some hown6 HTs.out (Nat.succ_pos tl)
                      refine (HIs.out _ _ c9 (own_intsR hown6 (by rw [HTs.out]; omega) HTb.out)).mono ?_
                      rintro e w7 ⟨hb7, rfl⟩
                      have p7 : Below wr.heap.size wr w7 := p6.trans (hb7.mono p6.size)
                      go_wp2_with fail
                      refine hK.out _ _ (HKp.out _ p7) (fun hHeld => ?_)
                      clear hK K
                      try simp only [Act.put, List.setIfInBounds_toArray, List.set_cons_zero, List.set_cons_succ]
                      refine take_d (i := 8) (d := some 50) (v := ?_) rfl rfl (by kernel_rfl) (by kernel_rfl) (by kernel_rfl) (fun _ _ _ h => h) (Or.inl ⟨by first | rfl | (simp [*, Region.wanted, yielded]), ?hya4⟩) (by assumption) ?resta4
                      case hya4 => (intro w hSw; (try dsimp only at hSw); go_simp <;> with_reducible rfl)
                      try simp only [Act.put, List.setIfInBounds_toArray, List.set_cons_zero, List.set_cons_succ]
                      refine take_d (i := 9) (d := some 51) (v := ?_) rfl rfl (by kernel_rfl) (by kernel_rfl) (by kernel_rfl) (fun _ _ _ h => h) (Or.inl ⟨by first | rfl | (simp [*, Region.wanted, yielded]), ?hya5⟩) (by assumption) ?resta5
                      case hya5 => (intro w hSw; (try dsimp only at hSw); go_simp <;> with_reducible rfl)
                      try simp only [Act.put, List.setIfInBounds_toArray, List.set_cons_zero, List.set_cons_succ]
                      refine take_d (i := 10) (d := some 52) (v := undef) rfl rfl (by kernel_rfl) (by kernel_rfl) (by kernel_rfl) (fun _ _ _ h => h) (Or.inr ⟨by first | rfl | (simp [*, Region.wanted, yielded]), rfl⟩) (by assumption) ?resta6
                      try simp only [Act.put, List.setIfInBounds_toArray, List.set_cons_zero, List.set_cons_succ]
                      refine take_d (i := 11) (d := some 53) (v := undef) rfl rfl (by kernel_rfl) (by kernel_rfl) (by kernel_rfl) (fun _ _ _ h => h) (Or.inr ⟨by first | rfl | (simp [*, Region.wanted, yielded]), rfl⟩) (by assumption) ?resta7
                      try simp only [Act.put, List.setIfInBounds_toArray, List.set_cons_zero, List.set_cons_succ]
                      refine take_d (i := 12) (d := some 54) (v := undef) rfl rfl (by kernel_rfl) (by kernel_rfl) (by kernel_rfl) (fun _ _ _ h => h) (Or.inr ⟨by first | rfl | (simp [*, Region.wanted, yielded]), rfl⟩) (by assumption) ?resta8
                      try simp only [Act.put, List.setIfInBounds_toArray, List.set_cons_zero, List.set_cons_succ]
                      refine take_d (i := 13) (d := some 55) (v := undef) rfl rfl (by kernel_rfl) (by kernel_rfl) (by kernel_rfl) (fun _ _ _ h => h) (Or.inr ⟨by first | rfl | (simp [*, Region.wanted, yielded]), rfl⟩) (by assumption) ?resta9
                      try simp only [Act.put, List.setIfInBounds_toArray, List.set_cons_zero, List.set_cons_succ]
                      refine take_d (i := 14) (d := some 56) (v := undef) rfl rfl (by kernel_rfl) (by kernel_rfl) (by kernel_rfl) (fun _ _ _ h => h) (Or.inr ⟨by first | rfl | (simp [*, Region.wanted, yielded]), rfl⟩) (by assumption) ?resta10
                      try simp only [Act.put, List.setIfInBounds_toArray, List.set_cons_zero, List.set_cons_succ]
                      refine take_d (i := 15) (d := some 57) (v := undef) rfl rfl (by kernel_rfl) (by kernel_rfl) (by kernel_rfl) (fun _ _ _ h => h) (Or.inr ⟨by first | rfl | (simp [*, Region.wanted, yielded]), rfl⟩) (by assumption) ?resta11
                      try simp only [Act.put, List.setIfInBounds_toArray, List.set_cons_zero, List.set_cons_succ]
                      refine take_d (i := 16) (d := some 58) (v := undef) rfl rfl (by kernel_rfl) (by kernel_rfl) (by kernel_rfl) (fun _ _ _ h => h) (Or.inr ⟨by first | rfl | (simp [*, Region.wanted, yielded]), rfl⟩) (by assumption) ?resta12
                      try simp only [Act.put, List.setIfInBounds_toArray, List.set_cons_zero, List.set_cons_succ]
                      refine take_d (i := 17) (d := some 59) (v := undef) rfl rfl (by kernel_rfl) (by kernel_rfl) (by kernel_rfl) (fun _ _ _ h => h) (Or.inr ⟨by first | rfl | (simp [*, Region.wanted, yielded]), rfl⟩) (by assumption) ?resta13
                      try simp only [Act.put, List.setIfInBounds_toArray, List.set_cons_zero, List.set_cons_succ]
                      refine take_d (i := 18) (d := some 60) (v := undef) rfl rfl (by kernel_rfl) (by kernel_rfl) (by kernel_rfl) (fun _ _ _ h => h) (Or.inr ⟨by first | rfl | (simp [*, Region.wanted, yielded]), rfl⟩) (by assumption) ?resta14
                      try simp only [Act.put, List.setIfInBounds_toArray, List.set_cons_zero, List.set_cons_succ]
                      refine take_d (i := 19) (d := some 61) (v := undef) rfl rfl (by kernel_rfl) (by kernel_rfl) (by kernel_rfl) (fun _ _ _ h => h) (Or.inr ⟨by first | rfl | (simp [*, Region.wanted, yielded]), rfl⟩) (by assumption) ?resta15
                      try simp only [Act.put, List.setIfInBounds_toArray, List.set_cons_zero, List.set_cons_succ]
                      refine take_d (i := 20) (d := some 62) (v := undef) rfl rfl (by kernel_rfl) (by kernel_rfl) (by kernel_rfl) (fun _ _ _ h => h) (Or.inr ⟨by first | rfl | (simp [*, Region.wanted, yielded]), rfl⟩) (by assumption) ?resta16
                      try simp only [Act.put, List.setIfInBounds_toArray, List.set_cons_zero, List.set_cons_succ]
                      refine take_d (i := 21) (d := some 63) (v := undef) rfl rfl (by kernel_rfl) (by kernel_rfl) (by kernel_rfl) (fun _ _ _ h => h) (Or.inr ⟨by first | rfl | (simp [*, Region.wanted, yielded]), rfl⟩) (by assumption) ?resta17
                      try simp only [Act.put, List.setIfInBounds_toArray, List.set_cons_zero, List.set_cons_succ]
                      refine take_d (i := 22) (d := some 64) (v := undef) rfl rfl (by kernel_rfl) (by kernel_rfl) (by kernel_rfl) (fun _ _ _ h => h) (Or.inr ⟨by first | rfl | (simp [*, Region.wanted, yielded]), rfl⟩) (by assumption) ?resta18
                      try simp only [Act.put, List.setIfInBounds_toArray, List.set_cons_zero, List.set_cons_succ]
                      refine take_d (i := 23) (d := some 65) (v := undef) rfl rfl (by kernel_rfl) (by kernel_rfl) (by kernel_rfl) (fun _ _ _ h => h) (Or.inr ⟨by first | rfl | (simp [*, Region.wanted, yielded]), rfl⟩) (by assumption) ?resta19
                      try simp only [Act.put, List.setIfInBounds_toArray, List.set_cons_zero, List.set_cons_succ]
                      refine take_d (i := 24) (d := some 66) (v := undef) rfl rfl (by kernel_rfl) (by kernel_rfl) (by kernel_rfl) (fun _ _ _ h => h) (Or.inr ⟨by first | rfl | (simp [*, Region.wanted, yielded]), rfl⟩) (by assumption) ?resta20
                      try simp only [Act.put, List.setIfInBounds_toArray, List.set_cons_zero, List.set_cons_succ]
                      refine take_d (i := 25) (d := some 67) (v := undef) rfl rfl (by kernel_rfl) (by kernel_rfl) (by kernel_rfl) (fun _ _ _ h => h) (Or.inr ⟨by first | rfl | (simp [*, Region.wanted, yielded]), rfl⟩) (by assumption) ?resta21
                      try simp only [Act.put, List.setIfInBounds_toArray, List.set_cons_zero, List.set_cons_succ]
                      refine take_d (i := 26) (d := some 68) (v := undef) rfl rfl (by kernel_rfl) (by kernel_rfl) (by kernel_rfl) (fun _ _ _ h => h) (Or.inr ⟨by first | rfl | (simp [*, Region.wanted, yielded]), rfl⟩) (by assumption) ?resta22
                      try simp only [Act.put, List.setIfInBounds_toArray, List.set_cons_zero, List.set_cons_succ]
                      refine take_d (i := 27) (d := some 69) (v := undef) rfl rfl (by kernel_rfl) (by kernel_rfl) (by kernel_rfl) (fun _ _ _ h => h) (Or.inr ⟨by first | rfl | (simp [*, Region.wanted, yielded]), rfl⟩) (by assumption) ?resta23
                      try simp only [Act.put, List.setIfInBounds_toArray, List.set_cons_zero, List.set_cons_succ]
                      refine take_d (i := 28) (d := some 70) (v := undef) rfl rfl (by kernel_rfl) (by kernel_rfl) (by kernel_rfl) (fun _ _ _ h => h) (Or.inr ⟨by first | rfl | (simp [*, Region.wanted, yielded]), rfl⟩) (by assumption) ?resta24
                      try simp only [Act.put, List.setIfInBounds_toArray, List.set_cons_zero, List.set_cons_succ]
                      refine take_d (i := 29) (d := some 71) (v := ?_) rfl rfl (by kernel_rfl) (by kernel_rfl) (by kernel_rfl) (fun _ _ _ h => h) (Or.inl ⟨by first | rfl | (simp [*, Region.wanted, yielded]), ?hya25⟩) (by assumption) ?resta25
                      case hya25 => (intro w hSw; (try dsimp only at hSw); go_simp <;> with_reducible rfl)
                      try simp only [Act.put, List.setIfInBounds_toArray, List.set_cons_zero, List.set_cons_succ]
                      refine wpAnyH_done (by kernel_rfl) ?_ _
                      go_simp
                      have P7 := hid p7
                      clear hown3 hgrow3 hown6 hgrow6 p3 p6 z3 y3 hb7 hg9
                      go_wp2_with fail
                      go_meet
                      case rel => exact ⟨_, rfl, hid (fun h => HTr.out (by first | exact h | trivial)), hid (fun h => HFa.out (by first | exact h | trivial)), P7⟩
                    · go_simp
                      go_wp2_with fail
                      refine hK.out _ _ (HKp.out _ (by repeat (first | exact hr | exact p3 | exact p6 | apply Below.drew | (refine Below.alloc ?_ (by first | exact Below.size (by assumption) | omega | (simp; done) | (simp; omega)) _)))) (fun hHeld => ?_)
                      clear hK K
                      try simp only [Act.put, List.setIfInBounds_toArray, List.set_cons_zero, List.set_cons_succ]
                      refine wpAnyH_ready (rs := [3]) (by kernel_rfl) (by simp) ?_
                      refine AllReadyH.cons (o := _) rfl (fun K hK => ?_) AllReadyH.nil
                      refine step_append_srcZ (by rfl) _ _ 23 (by rfl) wr.heap.size i0 Try.underlying23 hinf hz0 hz1 hz2 _ [] (by rfl) (zown_empty (by repeat (first | (with_reducible exact zblk_new _ _ _ (by first | rfl | (simp; done))) | (with_reducible refine zblk_alloc _ ?_) | (with_reducible refine zblk_drew ?_))) (by first | omega | (simp; done) | (simp; omega))) (some ⟨go, 0, none⟩) tl co T (by rfl) HTl.out (HSrc.out _ (by repeat (first | exact hr | exact p3 | exact p6 | apply Below.drew | (refine Below.alloc ?_ (by first | exact Below.size (by assumption) | omega | (simp; done) | (simp; omega)) _)))) (by simp; omega) (by first | omega | (simp; done) | (simp; omega)) ?_
                      intro v3 w3 hown3 hgrow3
                      have p3 : Below wr.heap.size wr w3 := Below.grown (by repeat (first | exact hr | exact p3 | exact p6 | apply Below.drew | (refine Below.alloc ?_ (by first | exact Below.size (by assumption) | omega | (simp; done) | (simp; omega)) _))) hgrow3 (by first | omega | (simp; done) | (simp; omega)) (zemp_ge (by first | omega | (simp; done) | (simp; omega)))
                      simp only [List.nil_append] at hown3
                      have z3 := p3.size
                      have y3 := hgrow3.size
                      refine hK.out _ _ (HKp.out _ p3) (fun hHeld => ?_)
                      clear hK K
                      try simp only [Act.put, List.setIfInBounds_toArray, List.set_cons_zero, List.set_cons_succ]
                      refine wpAnyH_ready (rs := [6]) (by kernel_rfl) (by simp) ?_
                      refine AllReadyH.cons (o := _) rfl (fun K hK => ?_) AllReadyH.nil
                      refine step_append_srcZ (by rfl) _ _ 23 (by rfl) wr.heap.size i0 Try.underlying23 hinf hz0 hz1 hz2 v3 T (by rfl) (by repeat (first | (with_reducible exact hown3) | (with_reducible refine zown_alloc ?_ _) | (with_reducible refine zown_drew ?_))) _ 1 _ [(s : Int)] (by rfl) (by rfl) (zsrc_one (by repeat (first | (with_reducible exact zblk_new _ _ _ (by first | rfl | (simp; done))) | (with_reducible refine zblk_alloc _ ?_) | (with_reducible refine zblk_drew ?_) | (with_reducible refine zblk_grown hgrow3 ?_ ?_) | (exact zemp_ne (by first | omega | (simp; done) | (simp; omega)))))) (by rw [HTl.out]; omega) (by first | omega | (simp; done) | (simp; omega)) ?_
                      intro v6 w6 hown6 hgrow6
                      have p6 : Below wr.heap.size wr w6 := Below.grown (by repeat (first | exact hr | exact p3 | exact p6 | apply Below.drew | (refine Below.alloc ?_ (by first | exact Below.size (by assumption) | omega | (simp; done) | (simp; omega)) _))) hgrow6 (by first | omega | (simp; done) | (simp; omega)) (zown_ge hown3)
                      refine hK.out _ _ (HKp.out _ p6) (fun hHeld => ?_)
                      clear hK K
                      try simp only [Act.put, List.setIfInBounds_toArray, List.set_cons_zero, List.set_cons_succ]
                      refine wpAnyH_ready (rs := [7]) (by kernel_rfl) (by simp) ?_
                      refine AllReadyH.cons (o := _) rfl (fun K hK => ?_) AllReadyH.nil
                      go_simp
                      obtain ⟨g9, c9, rfl, hg9⟩ := zown_some hown6 HTs.out (Nat.succ_pos tl)
                      refine (HIs.out _ _ c9 (own_intsR hown6 (by rw [HTs.out]; omega) HTb.out)).mono ?_
                      rintro e w7 ⟨hb7, rfl⟩
                      have p7 : Below wr.heap.size wr w7 := p6.trans (hb7.mono p6.size)
                      go_wp2_with fail
                      refine hK.out _ _ (HKp.out _ p7) (fun hHeld => ?_)
                      clear hK K
                      try simp only [Act.put, List.setIfInBounds_toArray, List.set_cons_zero, List.set_cons_succ]
                      refine take_d (i := 8) (d := some 50) (v := ?_) rfl rfl (by kernel_rfl) (by kernel_rfl) (by kernel_rfl) (fun _ _ _ h => h) (Or.inl ⟨by first | rfl | (simp [*, Region.wanted, yielded]), ?hya26⟩) (by assumption) ?resta26
                      case hya26 => (intro w hSw; (try dsimp only at hSw); go_simp <;> with_reducible rfl)
                      try simp only [Act.put, List.setIfInBounds_toArray, List.set_cons_zero, List.set_cons_succ]
                      refine take_d (i := 9) (d := some 51) (v := ?_) rfl rfl (by kernel_rfl) (by kernel_rfl) (by kernel_rfl) (fun _ _ _ h => h) (Or.inl ⟨by first | rfl | (simp [*, Region.wanted, yielded]), ?hya27⟩) (by assumption) ?resta27
                      case hya27 => (intro w hSw; (try dsimp only at hSw); go_simp <;> with_reducible rfl)
                      try simp only [Act.put, List.setIfInBounds_toArray, List.set_cons_zero, List.set_cons_succ]
                      refine take_d (i := 10) (d := some 52) (v := undef) rfl rfl (by kernel_rfl) (by kernel_rfl) (by kernel_rfl) (fun _ _ _ h => h) (Or.inr ⟨by first | rfl | (simp [*, Region.wanted, yielded]), rfl⟩) (by assumption) ?resta28
                      try simp only [Act.put, List.setIfInBounds_toArray, List.set_cons_zero, List.set_cons_succ]
                      refine take_d (i := 11) (d := some 53) (v := undef) rfl rfl (by kernel_rfl) (by kernel_rfl) (by kernel_rfl) (fun _ _ _ h => h) (Or.inr ⟨by first | rfl | (simp [*, Region.wanted, yielded]), rfl⟩) (by assumption) ?resta29
                      try simp only [Act.put, List.setIfInBounds_toArray, List.set_cons_zero, List.set_cons_succ]
                      refine take_d (i := 12) (d := some 54) (v := undef) rfl rfl (by kernel_rfl) (by kernel_rfl) (by kernel_rfl) (fun _ _ _ h => h) (Or.inr ⟨by first | rfl | (simp [*, Region.wanted, yielded]), rfl⟩) (by assumption) ?resta30
                      try simp only [Act.put, List.setIfInBounds_toArray, List.set_cons_zero, List.set_cons_succ]
                      refine take_d (i := 13) (d := some 55) (v := undef) rfl rfl (by kernel_rfl) (by kernel_rfl) (by kernel_rfl) (fun _ _ _ h => h) (Or.inr ⟨by first | rfl | (simp [*, Region.wanted, yielded]), rfl⟩) (by assumption) ?resta31
                      try simp only [Act.put, List.setIfInBounds_toArray, List.set_cons_zero, List.set_cons_succ]
                      refine take_d (i := 14) (d := some 56) (v := undef) rfl rfl (by kernel_rfl) (by kernel_rfl) (by kernel_rfl) (fun _ _ _ h => h) (Or.inr ⟨by first | rfl | (simp [*, Region.wanted, yielded]), rfl⟩) (by assumption) ?resta32
                      try simp only [Act.put, List.setIfInBounds_toArray, List.set_cons_zero, List.set_cons_succ]
                      refine take_d (i := 15) (d := some 57) (v := undef) rfl rfl (by kernel_rfl) (by kernel_rfl) (by kernel_rfl) (fun _ _ _ h => h) (Or.inr ⟨by first | rfl | (simp [*, Region.wanted, yielded]), rfl⟩) (by assumption) ?resta33
                      try simp only [Act.put, List.setIfInBounds_toArray, List.set_cons_zero, List.set_cons_succ]
                      refine take_d (i := 16) (d := some 58) (v := undef) rfl rfl (by kernel_rfl) (by kernel_rfl) (by kernel_rfl) (fun _ _ _ h => h) (Or.inr ⟨by first | rfl | (simp [*, Region.wanted, yielded]), rfl⟩) (by assumption) ?resta34
                      try simp only [Act.put, List.setIfInBounds_toArray, List.set_cons_zero, List.set_cons_succ]
                      refine take_d (i := 17) (d := some 59) (v := undef) rfl rfl (by kernel_rfl) (by kernel_rfl) (by kernel_rfl) (fun _ _ _ h => h) (Or.inr ⟨by first | rfl | (simp [*, Region.wanted, yielded]), rfl⟩) (by assumption) ?resta35
                      try simp only [Act.put, List.setIfInBounds_toArray, List.set_cons_zero, List.set_cons_succ]
                      refine take_d (i := 18) (d := some 60) (v := undef) rfl rfl (by kernel_rfl) (by kernel_rfl) (by kernel_rfl) (fun _ _ _ h => h) (Or.inr ⟨by first | rfl | (simp [*, Region.wanted, yielded]), rfl⟩) (by assumption) ?resta36
                      try simp only [Act.put, List.setIfInBounds_toArray, List.set_cons_zero, List.set_cons_succ]
                      refine take_d (i := 19) (d := some 61) (v := undef) rfl rfl (by kernel_rfl) (by kernel_rfl) (by kernel_rfl) (fun _ _ _ h => h) (Or.inr ⟨by first | rfl | (simp [*, Region.wanted, yielded]), rfl⟩) (by assumption) ?resta37
                      try simp only [Act.put, List.setIfInBounds_toArray, List.set_cons_zero, List.set_cons_succ]
                      refine take_d (i := 20) (d := some 62) (v := undef) rfl rfl (by kernel_rfl) (by kernel_rfl) (by kernel_rfl) (fun _ _ _ h => h) (Or.inr ⟨by first | rfl | (simp [*, Region.wanted, yielded]), rfl⟩) (by assumption) ?resta38
                      try simp only [Act.put, List.setIfInBounds_toArray, List.set_cons_zero, List.set_cons_succ]
                      refine take_d (i := 21) (d := some 63) (v := undef) rfl rfl (by kernel_rfl) (by kernel_rfl) (by kernel_rfl) (fun _ _ _ h => h) (Or.inr ⟨by first | rfl | (simp [*, Region.wanted, yielded]), rfl⟩) (by assumption) ?resta39
                      try simp only [Act.put, List.setIfInBounds_toArray, List.set_cons_zero, List.set_cons_succ]
                      refine take_d (i := 22) (d := some 64) (v := undef) rfl rfl (by kernel_rfl) (by kernel_rfl) (by kernel_rfl) (fun _ _ _ h => h) (Or.inr ⟨by first | rfl | (simp [*, Region.wanted, yielded]), rfl⟩) (by assumption) ?resta40
                      try simp only [Act.put, List.setIfInBounds_toArray, List.set_cons_zero, List.set_cons_succ]
                      refine take_d (i := 23) (d := some 65) (v := undef) rfl rfl (by kernel_rfl) (by kernel_rfl) (by kernel_rfl) (fun _ _ _ h => h) (Or.inr ⟨by first | rfl | (simp [*, Region.wanted, yielded]), rfl⟩) (by assumption) ?resta41
                      try simp only [Act.put, List.setIfInBounds_toArray, List.set_cons_zero, List.set_cons_succ]
                      refine take_d (i := 24) (d := some 66) (v := undef) rfl rfl (by kernel_rfl) (by kernel_rfl) (by kernel_rfl) (fun _ _ _ h => h) (Or.inr ⟨by first | rfl | (simp [*, Region.wanted, yielded]), rfl⟩) (by assumption) ?resta42
                      try simp only [Act.put, List.setIfInBounds_toArray, List.set_cons_zero, List.set_cons_succ]
                      refine take_d (i := 25) (d := some 67) (v := undef) rfl rfl (by kernel_rfl) (by kernel_rfl) (by kernel_rfl) (fun _ _ _ h => h) (Or.inr ⟨by first | rfl | (simp [*, Region.wanted, yielded]), rfl⟩) (by assumption) ?resta43
                      try simp only [Act.put, List.setIfInBounds_toArray, List.set_cons_zero, List.set_cons_succ]
                      refine take_d (i := 26) (d := some 68) (v := undef) rfl rfl (by kernel_rfl) (by kernel_rfl) (by kernel_rfl) (fun _ _ _ h => h) (Or.inr ⟨by first | rfl | (simp [*, Region.wanted, yielded]), rfl⟩) (by assumption) ?resta44
                      try simp only [Act.put, List.setIfInBounds_toArray, List.set_cons_zero, List.set_cons_succ]
                      refine take_d (i := 27) (d := some 69) (v := undef) rfl rfl (by kernel_rfl) (by kernel_rfl) (by kernel_rfl) (fun _ _ _ h => h) (Or.inr ⟨by first | rfl | (simp [*, Region.wanted, yielded]), rfl⟩) (by assumption) ?resta45
                      try simp only [Act.put, List.setIfInBounds_toArray, List.set_cons_zero, List.set_cons_succ]
                      refine take_d (i := 28) (d := some 70) (v := undef) rfl rfl (by kernel_rfl) (by kernel_rfl) (by kernel_rfl) (fun _ _ _ h => h) (Or.inr ⟨by first | rfl | (simp [*, Region.wanted, yielded]), rfl⟩) (by assumption) ?resta46
                      try simp only [Act.put, List.setIfInBounds_toArray, List.set_cons_zero, List.set_cons_succ]
                      refine take_d (i := 29) (d := some 71) (v := ?_) rfl rfl (by kernel_rfl) (by kernel_rfl) (by kernel_rfl) (fun _ _ _ h => h) (Or.inl ⟨by first | rfl | (simp [*, Region.wanted, yielded]), ?hya47⟩) (by assumption) ?resta47
                      case hya47 => (intro w hSw; (try dsimp only at hSw); go_simp <;> with_reducible rfl)
                      try simp only [Act.put, List.setIfInBounds_toArray, List.set_cons_zero, List.set_cons_succ]
                      refine wpAnyH_done (by kernel_rfl) ?_ _
                      go_simp
                      have P7 := hid p7
                      clear hown3 hgrow3 hown6 hgrow6 p3 p6 z3 y3 hb7 hg9
                      go_wp2_with fail
                      go_meet
                      case rel => exact ⟨_, rfl, hid (fun h => HTr.out (by first | exact h | trivial)), hid (fun h => HFa.out (by first | exact h | trivial)), P7⟩
                  · go_simp
                    go_wp2_with fail
                    refine hK.out _ _ (HKp.out _ (by repeat (first | exact hr | exact p3 | exact p6 | apply Below.drew | (refine Below.alloc ?_ (by first | exact Below.size (by assumption) | omega | (simp; done) | (simp; omega)) _)))) (fun hHeld => ?_)
                    clear hK K
                    try simp only [Act.put, List.setIfInBounds_toArray, List.set_cons_zero, List.set_cons_succ]
                    refine wpAnyH_ready (rs := [1]) (by kernel_rfl) (by simp) ?_
                    refine AllReadyH.cons (o := _) rfl (fun K hK => ?_) AllReadyH.nil
                    go_simp
                    go_wp2_with fail
                    refine hK.out _ _ (HKp.out _ (by repeat (first | exact hr | exact p3 | exact p6 | apply Below.drew | (refine Below.alloc ?_ (by first | exact Below.size (by assumption) | omega | (simp; done) | (simp; omega)) _)))) (fun hHeld => ?_)
                    clear hK K
                    try simp only [Act.put, List.setIfInBounds_toArray, List.set_cons_zero, List.set_cons_succ]
                    refine wpAnyH_ready (rs := [3]) (by kernel_rfl) (by simp) ?_
                    refine AllReadyH.cons (o := _) rfl (fun K hK => ?_) AllReadyH.nil
                    refine step_append_srcZ (by rfl) _ _ 23 (by rfl) wr.heap.size i0 Try.underlying23 hinf hz0 hz1 hz2 _ [] (by rfl) (zown_empty (by repeat (first | (with_reducible exact zblk_new _ _ _ (by first | rfl | (simp; done))) | (with_reducible refine zblk_alloc _ ?_) | (with_reducible refine zblk_drew ?_))) (by first | omega | (simp; done) | (simp; omega))) (some ⟨go, 0, none⟩) tl co T (by rfl) HTl.out (HSrc.out _ (by repeat (first | exact hr | exact p3 | exact p6 | apply Below.drew | (refine Below.alloc ?_ (by first | exact Below.size (by assumption) | omega | (simp; done) | (simp; omega)) _)))) (by simp; omega) (by first | omega | (simp; done) | (simp; omega)) ?_
                    intro v3 w3 hown3 hgrow3
                    have p3 : Below wr.heap.size wr w3 := Below.grown (by repeat (first | exact hr | exact p3 | exact p6 | apply Below.drew | (refine Below.alloc ?_ (by first | exact Below.size (by assumption) | omega | (simp; done) | (simp; omega)) _))) hgrow3 (by first | omega | (simp; done) | (simp; omega)) (zemp_ge (by first | omega | (simp; done) | (simp; omega)))
                    simp only [List.nil_append] at hown3
                    have z3 := p3.size
                    have y3 := hgrow3.size
                    refine hK.out _ _ (HKp.out _ p3) (fun hHeld => ?_)
                    clear hK K
                    try simp only [Act.put, List.setIfInBounds_toArray, List.set_cons_zero, List.set_cons_succ]
                    refine wpAnyH_ready (rs := [6]) (by kernel_rfl) (by simp) ?_
                    refine AllReadyH.cons (o := _) rfl (fun K hK => ?_) AllReadyH.nil
                    refine step_append_srcZ (by rfl) _ _ 23 (by rfl) wr.heap.size i0 Try.underlying23 hinf hz0 hz1 hz2 v3 T (by rfl) (by repeat (first | (with_reducible exact hown3) | (with_reducible refine zown_alloc ?_ _) | (with_reducible refine zown_drew ?_))) _ 1 _ [(s : Int)] (by rfl) (by rfl) (zsrc_one (by repeat (first | (with_reducible exact zblk_new _ _ _ (by first | rfl | (simp; done))) | (with_reducible refine zblk_alloc _ ?_) | (with_reducible refine zblk_drew ?_) | (with_reducible refine zblk_grown hgrow3 ?_ ?_) | (exact zemp_ne (by first | omega | (simp; done) | (simp; omega)))))) (by rw [HTl.out]; omega) (by first | omega | (simp; done) | (simp; omega)) ?_
                    intro v6 w6 hown6 hgrow6
                    have p6 : Below wr.heap.size wr w6 := Below.grown (by repeat (first | exact hr | exact p3 | exact p6 | apply Below.drew | (refine Below.alloc ?_ (by first | exact Below.size (by assumption) | omega | (simp; done) | (simp; omega)) _))) hgrow6 (by first | omega | (simp; done) | (simp; omega)) (zown_ge hown3)
                    refine hK.out _ _ (HKp.out _ p6) (fun hHeld => ?_)
                    clear hK K
                    try simp only [Act.put, List.setIfInBounds_toArray, List.set_cons_zero, List.set_cons_succ]
                    refine wpAnyH_ready (rs := [7]) (by kernel_rfl) (by simp) ?_
                    refine AllReadyH.cons (o := _) rfl (fun K hK => ?_) AllReadyH.nil
                    go_simp
                    obtain ⟨g9, c9, rfl, hg9⟩ := zown_some hown6 HTs.out (Nat.succ_pos tl)
                    refine (HIs.out _ _ c9 (own_intsR hown6 (by rw [HTs.out]; omega) HTb.out)).mono ?_
                    rintro e w7 ⟨hb7, rfl⟩
                    have p7 : Below wr.heap.size wr w7 := p6.trans (hb7.mono p6.size)
                    go_wp2_with fail
                    refine hK.out _ _ (HKp.out _ p7) (fun hHeld => ?_)
                    clear hK K
                    try simp only [Act.put, List.setIfInBounds_toArray, List.set_cons_zero, List.set_cons_succ]
                    refine take_d (i := 8) (d := some 50) (v := ?_) rfl rfl (by kernel_rfl) (by kernel_rfl) (by kernel_rfl) (fun _ _ _ h => h) (Or.inl ⟨by first | rfl | (simp [*, Region.wanted, yielded]), ?hya48⟩) (by assumption) ?resta48
                    case hya48 => (intro w hSw; (try dsimp only at hSw); go_simp <;> with_reducible rfl)
                    try simp only [Act.put, List.setIfInBounds_toArray, List.set_cons_zero, List.set_cons_succ]
                    refine take_d (i := 9) (d := some 51) (v := ?_) rfl rfl (by kernel_rfl) (by kernel_rfl) (by kernel_rfl) (fun _ _ _ h => h) (Or.inl ⟨by first | rfl | (simp [*, Region.wanted, yielded]), ?hya49⟩) (by assumption) ?resta49
                    case hya49 => (intro w hSw; (try dsimp only at hSw); go_simp <;> with_reducible rfl)
                    try simp only [Act.put, List.setIfInBounds_toArray, List.set_cons_zero, List.set_cons_succ]
                    refine take_d (i := 10) (d := some 52) (v := undef) rfl rfl (by kernel_rfl) (by kernel_rfl) (by kernel_rfl) (fun _ _ _ h => h) (Or.inr ⟨by first | rfl | (simp [*, Region.wanted, yielded]), rfl⟩) (by assumption) ?resta50
                    try simp only [Act.put, List.setIfInBounds_toArray, List.set_cons_zero, List.set_cons_succ]
                    refine take_d (i := 11) (d := some 53) (v := undef) rfl rfl (by kernel_rfl) (by kernel_rfl) (by kernel_rfl) (fun _ _ _ h => h) (Or.inr ⟨by first | rfl | (simp [*, Region.wanted, yielded]), rfl⟩) (by assumption) ?resta51
                    try simp only [Act.put, List.setIfInBounds_toArray, List.set_cons_zero, List.set_cons_succ]
                    refine take_d (i := 12) (d := some 54) (v := undef) rfl rfl (by kernel_rfl) (by kernel_rfl) (by kernel_rfl) (fun _ _ _ h => h) (Or.inr ⟨by first | rfl | (simp [*, Region.wanted, yielded]), rfl⟩) (by assumption) ?resta52
                    try simp only [Act.put, List.setIfInBounds_toArray, List.set_cons_zero, List.set_cons_succ]
                    refine take_d (i := 13) (d := some 55) (v := undef) rfl rfl (by kernel_rfl) (by kernel_rfl) (by kernel_rfl) (fun _ _ _ h => h) (Or.inr ⟨by first | rfl | (simp [*, Region.wanted, yielded]), rfl⟩) (by assumption) ?resta53
                    try simp only [Act.put, List.setIfInBounds_toArray, List.set_cons_zero, List.set_cons_succ]
                    refine take_d (i := 14) (d := some 56) (v := undef) rfl rfl (by kernel_rfl) (by kernel_rfl) (by kernel_rfl) (fun _ _ _ h => h) (Or.inr ⟨by first | rfl | (simp [*, Region.wanted, yielded]), rfl⟩) (by assumption) ?resta54
                    try simp only [Act.put, List.setIfInBounds_toArray, List.set_cons_zero, List.set_cons_succ]
                    refine take_d (i := 15) (d := some 57) (v := undef) rfl rfl (by kernel_rfl) (by kernel_rfl) (by kernel_rfl) (fun _ _ _ h => h) (Or.inr ⟨by first | rfl | (simp [*, Region.wanted, yielded]), rfl⟩) (by assumption) ?resta55
                    try simp only [Act.put, List.setIfInBounds_toArray, List.set_cons_zero, List.set_cons_succ]
                    refine take_d (i := 16) (d := some 58) (v := undef) rfl rfl (by kernel_rfl) (by kernel_rfl) (by kernel_rfl) (fun _ _ _ h => h) (Or.inr ⟨by first | rfl | (simp [*, Region.wanted, yielded]), rfl⟩) (by assumption) ?resta56
                    try simp only [Act.put, List.setIfInBounds_toArray, List.set_cons_zero, List.set_cons_succ]
                    refine take_d (i := 17) (d := some 59) (v := undef) rfl rfl (by kernel_rfl) (by kernel_rfl) (by kernel_rfl) (fun _ _ _ h => h) (Or.inr ⟨by first | rfl | (simp [*, Region.wanted, yielded]), rfl⟩) (by assumption) ?resta57
                    try simp only [Act.put, List.setIfInBounds_toArray, List.set_cons_zero, List.set_cons_succ]
                    refine take_d (i := 18) (d := some 60) (v := undef) rfl rfl (by kernel_rfl) (by kernel_rfl) (by kernel_rfl) (fun _ _ _ h => h) (Or.inr ⟨by first | rfl | (simp [*, Region.wanted, yielded]), rfl⟩) (by assumption) ?resta58
                    try simp only [Act.put, List.setIfInBounds_toArray, List.set_cons_zero, List.set_cons_succ]
                    refine take_d (i := 19) (d := some 61) (v := undef) rfl rfl (by kernel_rfl) (by kernel_rfl) (by kernel_rfl) (fun _ _ _ h => h) (Or.inr ⟨by first | rfl | (simp [*, Region.wanted, yielded]), rfl⟩) (by assumption) ?resta59
                    try simp only [Act.put, List.setIfInBounds_toArray, List.set_cons_zero, List.set_cons_succ]
                    refine take_d (i := 20) (d := some 62) (v := undef) rfl rfl (by kernel_rfl) (by kernel_rfl) (by kernel_rfl) (fun _ _ _ h => h) (Or.inr ⟨by first | rfl | (simp [*, Region.wanted, yielded]), rfl⟩) (by assumption) ?resta60
                    try simp only [Act.put, List.setIfInBounds_toArray, List.set_cons_zero, List.set_cons_succ]
                    refine take_d (i := 21) (d := some 63) (v := undef) rfl rfl (by kernel_rfl) (by kernel_rfl) (by kernel_rfl) (fun _ _ _ h => h) (Or.inr ⟨by first | rfl | (simp [*, Region.wanted, yielded]), rfl⟩) (by assumption) ?resta61
                    try simp only [Act.put, List.setIfInBounds_toArray, List.set_cons_zero, List.set_cons_succ]
                    refine take_d (i := 22) (d := some 64) (v := undef) rfl rfl (by kernel_rfl) (by kernel_rfl) (by kernel_rfl) (fun _ _ _ h => h) (Or.inr ⟨by first | rfl | (simp [*, Region.wanted, yielded]), rfl⟩) (by assumption) ?resta62
                    try simp only [Act.put, List.setIfInBounds_toArray, List.set_cons_zero, List.set_cons_succ]
                    refine take_d (i := 23) (d := some 65) (v := undef) rfl rfl (by kernel_rfl) (by kernel_rfl) (by kernel_rfl) (fun _ _ _ h => h) (Or.inr ⟨by first | rfl | (simp [*, Region.wanted, yielded]), rfl⟩) (by assumption) ?resta63
                    try simp only [Act.put, List.setIfInBounds_toArray, List.set_cons_zero, List.set_cons_succ]
                    refine take_d (i := 24) (d := some 66) (v := undef) rfl rfl (by kernel_rfl) (by kernel_rfl) (by kernel_rfl) (fun _ _ _ h => h) (Or.inr ⟨by first | rfl | (simp [*, Region.wanted, yielded]), rfl⟩) (by assumption) ?resta64
                    try simp only [Act.put, List.setIfInBounds_toArray, List.set_cons_zero, List.set_cons_succ]
                    refine take_d (i := 25) (d := some 67) (v := undef) rfl rfl (by kernel_rfl) (by kernel_rfl) (by kernel_rfl) (fun _ _ _ h => h) (Or.inr ⟨by first | rfl | (simp [*, Region.wanted, yielded]), rfl⟩) (by assumption) ?resta65
                    try simp only [Act.put, List.setIfInBounds_toArray, List.set_cons_zero, List.set_cons_succ]
                    refine take_d (i := 26) (d := some 68) (v := undef) rfl rfl (by kernel_rfl) (by kernel_rfl) (by kernel_rfl) (fun _ _ _ h => h) (Or.inr ⟨by first | rfl | (simp [*, Region.wanted, yielded]), rfl⟩) (by assumption) ?resta66
                    try simp only [Act.put, List.setIfInBounds_toArray, List.set_cons_zero, List.set_cons_succ]
                    refine take_d (i := 27) (d := some 69) (v := undef) rfl rfl (by kernel_rfl) (by kernel_rfl) (by kernel_rfl) (fun _ _ _ h => h) (Or.inr ⟨by first | rfl | (simp [*, Region.wanted, yielded]), rfl⟩) (by assumption) ?resta67
                    try simp only [Act.put, List.setIfInBounds_toArray, List.set_cons_zero, List.set_cons_succ]
                    refine take_d (i := 28) (d := some 70) (v := undef) rfl rfl (by kernel_rfl) (by kernel_rfl) (by kernel_rfl) (fun _ _ _ h => h) (Or.inr ⟨by first | rfl | (simp [*, Region.wanted, yielded]), rfl⟩) (by assumption) ?resta68
                    try simp only [Act.put, List.setIfInBounds_toArray, List.set_cons_zero, List.set_cons_succ]
                    refine take_d (i := 29) (d := some 71) (v := ?_) rfl rfl (by kernel_rfl) (by kernel_rfl) (by kernel_rfl) (fun _ _ _ h => h) (Or.inl ⟨by first | rfl | (simp [*, Region.wanted, yielded]), ?hya69⟩) (by assumption) ?resta69
                    case hya69 => (intro w hSw; (try dsimp only at hSw); go_simp <;> with_reducible rfl)
                    try simp only [Act.put, List.setIfInBounds_toArray, List.set_cons_zero, List.set_cons_succ]
                    refine wpAnyH_done (by kernel_rfl) ?_ _
                    go_simp
                    have P7 := hid p7
                    clear hown3 hgrow3 hown6 hgrow6 p3 p6 z3 y3 hb7 hg9
                    go_wp2_with fail
                    go_meet
                    case rel => exact ⟨_, rfl, hid (fun h => HTr.out (by first | exact h | trivial)), hid (fun h => HFa.out (by first | exact h | trivial)), P7⟩

                · have he : (e9 == 0) = true := by simp; exact hte.2 hin
                  have HNin := hid hin
                  clear hte hin htl9
                  by_cases hbn : best < 0
                  · have hb1 : decide (best < 0) = true := decide_eq_true hbn
                    have HTr := hid (fun (_ : true = true) => HBe.out.take hs1 HNin.out (.inl hbn))
                    have HFa := hid (fun (h : true = false) => (show BestTo t t.length T (s + 1) best from by cases h))
                    have HKp := hid (fun (W : World) (hb : Below wr.heap.size wr W) => hb)
                    refine wp_region_held_drew (S := (fun w' => Below wr.heap.size wr w')) (by kernel_rfl) (HKp.out _ hr.drew) (fun hHeld => ?_)
                    refine take_d (i := 0) (d := some 42) (v := ?_) rfl rfl (by kernel_rfl) (by kernel_rfl) (by kernel_rfl) (fun _ _ _ h => h) (Or.inl ⟨by first | rfl | (simp [*, Region.wanted, yielded]), ?hyb1⟩) (by assumption) ?restb1
                    case hyb1 => (intro w hSw; (try dsimp only at hSw); go_simp <;> with_reducible rfl)
                    try simp only [Act.put, List.setIfInBounds_toArray, List.set_cons_zero, List.set_cons_succ]
                    refine take_d (i := 2) (d := some 44) (v := ?_) rfl rfl (by kernel_rfl) (by kernel_rfl) (by kernel_rfl) (fun _ _ _ h => h) (Or.inl ⟨by first | rfl | (simp [*, Region.wanted, yielded]), ?hyb2⟩) (by assumption) ?restb2
                    case hyb2 => (intro w hSw; (try dsimp only at hSw); go_simp <;> with_reducible rfl)
                    try simp only [Act.put, List.setIfInBounds_toArray, List.set_cons_zero, List.set_cons_succ]
                    refine take_d (i := 4) (d := some 46) (v := ?_) rfl rfl (by kernel_rfl) (by kernel_rfl) (by kernel_rfl) (fun _ _ _ h => h) (Or.inl ⟨by first | rfl | (simp [*, Region.wanted, yielded]), ?hyb3⟩) (by assumption) ?restb3
                    case hyb3 => (intro w hSw; (try dsimp only at hSw); go_simp <;> with_reducible rfl)
                    try simp only [Act.put, List.setIfInBounds_toArray, List.set_cons_zero, List.set_cons_succ]
                    refine wpAnyH_ready (rs := [1, 5]) (by kernel_rfl) (by simp) ?_
                    refine AllReadyH.cons (o := _) rfl (fun K hK => ?_) (AllReadyH.cons (o := _) rfl (fun K hK => ?_) AllReadyH.nil)
                    · go_simp
                      go_wp2_with fail
                      refine hK.out _ _ (HKp.out _ (by repeat (first | exact hr | exact p3 | exact p6 | apply Below.drew | (refine Below.alloc ?_ (by first | exact Below.size (by assumption) | omega | (simp; done) | (simp; omega)) _)))) (fun hHeld => ?_)
                      clear hK K
                      try simp only [Act.put, List.setIfInBounds_toArray, List.set_cons_zero, List.set_cons_succ]
                      refine wpAnyH_ready (rs := [3, 5]) (by kernel_rfl) (by simp) ?_
                      refine AllReadyH.cons (o := _) rfl (fun K hK => ?_) (AllReadyH.cons (o := _) rfl (fun K hK => ?_) AllReadyH.nil)
                      · refine step_append_srcZ (by rfl) _ _ 23 (by rfl) wr.heap.size i0 Try.underlying23 hinf hz0 hz1 hz2 _ [] (by rfl) (zown_empty (by repeat (first | (with_reducible exact zblk_new _ _ _ (by first | rfl | (simp; done))) | (with_reducible refine zblk_alloc _ ?_) | (with_reducible refine zblk_drew ?_))) (by first | omega | (simp; done) | (simp; omega))) (some ⟨go, 0, none⟩) tl co T (by rfl) HTl.out (HSrc.out _ (by repeat (first | exact hr | exact p3 | exact p6 | apply Below.drew | (refine Below.alloc ?_ (by first | exact Below.size (by assumption) | omega | (simp; done) | (simp; omega)) _)))) (by simp; omega) (by first | omega | (simp; done) | (simp; omega)) ?_
                        intro v3 w3 hown3 hgrow3
                        have p3 : Below wr.heap.size wr w3 := Below.grown (by repeat (first | exact hr | exact p3 | exact p6 | apply Below.drew | (refine Below.alloc ?_ (by first | exact Below.size (by assumption) | omega | (simp; done) | (simp; omega)) _))) hgrow3 (by first | omega | (simp; done) | (simp; omega)) (zemp_ge (by first | omega | (simp; done) | (simp; omega)))
                        simp only [List.nil_append] at hown3
                        have z3 := p3.size
                        have y3 := hgrow3.size
                        refine hK.out _ _ (HKp.out _ p3) (fun hHeld => ?_)
                        clear hK K
                        try simp only [Act.put, List.setIfInBounds_toArray, List.set_cons_zero, List.set_cons_succ]
                        refine wpAnyH_ready (rs := [5]) (by kernel_rfl) (by simp) ?_
                        refine AllReadyH.cons (o := _) rfl (fun K hK => ?_) AllReadyH.nil
                        go_simp
                        go_wp2_with fail
                        refine hK.out _ _ (HKp.out _ (by repeat (first | exact hr | exact p3 | exact p6 | apply Below.drew | (refine Below.alloc ?_ (by first | exact Below.size (by assumption) | omega | (simp; done) | (simp; omega)) _)))) (fun hHeld => ?_)
                        clear hK K
                        try simp only [Act.put, List.setIfInBounds_toArray, List.set_cons_zero, List.set_cons_succ]
                        refine wpAnyH_ready (rs := [6]) (by kernel_rfl) (by simp) ?_
                        refine AllReadyH.cons (o := _) rfl (fun K hK => ?_) AllReadyH.nil
                        refine step_append_srcZ (by rfl) _ _ 23 (by rfl) wr.heap.size i0 Try.underlying23 hinf hz0 hz1 hz2 v3 T (by rfl) (by repeat (first | (with_reducible exact hown3) | (with_reducible refine zown_alloc ?_ _) | (with_reducible refine zown_drew ?_))) _ 1 _ [(s : Int)] (by rfl) (by rfl) (zsrc_one (by repeat (first | (with_reducible exact zblk_new _ _ _ (by first | rfl | (simp; done))) | (with_reducible refine zblk_alloc _ ?_) | (with_reducible refine zblk_drew ?_) | (with_reducible refine zblk_grown hgrow3 ?_ ?_) | (exact zemp_ne (by first | omega | (simp; done) | (simp; omega)))))) (by rw [HTl.out]; omega) (by first | omega | (simp; done) | (simp; omega)) ?_
                        intro v6 w6 hown6 hgrow6
                        have p6 : Below wr.heap.size wr w6 := Below.grown (by repeat (first | exact hr | exact p3 | exact p6 | apply Below.drew | (refine Below.alloc ?_ (by first | exact Below.size (by assumption) | omega | (simp; done) | (simp; omega)) _))) hgrow6 (by first | omega | (simp; done) | (simp; omega)) (zown_ge hown3)
                        refine hK.out _ _ (HKp.out _ p6) (fun hHeld => ?_)
                        clear hK K
                        try simp only [Act.put, List.setIfInBounds_toArray, List.set_cons_zero, List.set_cons_succ]
                        refine wpAnyH_ready (rs := [7]) (by kernel_rfl) (by simp) ?_
                        refine AllReadyH.cons (o := _) rfl (fun K hK => ?_) AllReadyH.nil
                        go_simp
                        obtain ⟨g9, c9, rfl, hg9⟩ := zown_some hown6 HTs.out (Nat.succ_pos tl)
                        refine (HIs.out _ _ c9 (own_intsR hown6 (by rw [HTs.out]; omega) HTb.out)).mono ?_
                        rintro e w7 ⟨hb7, rfl⟩
                        have p7 : Below wr.heap.size wr w7 := p6.trans (hb7.mono p6.size)
                        go_wp2_with fail
                        refine hK.out _ _ (HKp.out _ p7) (fun hHeld => ?_)
                        clear hK K
                        try simp only [Act.put, List.setIfInBounds_toArray, List.set_cons_zero, List.set_cons_succ]
                        refine take_d (i := 8) (d := some 50) (v := ?_) rfl rfl (by kernel_rfl) (by kernel_rfl) (by kernel_rfl) (fun _ _ _ h => h) (Or.inl ⟨by first | rfl | (simp [*, Region.wanted, yielded]), ?hyb4⟩) (by assumption) ?restb4
                        case hyb4 => (intro w hSw; (try dsimp only at hSw); go_simp <;> with_reducible rfl)
                        try simp only [Act.put, List.setIfInBounds_toArray, List.set_cons_zero, List.set_cons_succ]
                        refine take_d (i := 9) (d := some 51) (v := ?_) rfl rfl (by kernel_rfl) (by kernel_rfl) (by kernel_rfl) (fun _ _ _ h => h) (Or.inl ⟨by first | rfl | (simp [*, Region.wanted, yielded]), ?hyb5⟩) (by assumption) ?restb5
                        case hyb5 => (intro w hSw; (try dsimp only at hSw); go_simp <;> with_reducible rfl)
                        try simp only [Act.put, List.setIfInBounds_toArray, List.set_cons_zero, List.set_cons_succ]
                        refine take_d (i := 10) (d := some 52) (v := ?_) rfl rfl (by kernel_rfl) (by kernel_rfl) (by kernel_rfl) (fun _ _ _ h => h) (Or.inl ⟨by first | rfl | (simp [*, Region.wanted, yielded]), ?hyb6⟩) (by assumption) ?restb6
                        case hyb6 => (intro w hSw; (try dsimp only at hSw); go_simp <;> with_reducible rfl)
                        try simp only [Act.put, List.setIfInBounds_toArray, List.set_cons_zero, List.set_cons_succ]
                        refine take_d (i := 11) (d := some 53) (v := ?_) rfl rfl (by kernel_rfl) (by kernel_rfl) (by kernel_rfl) (fun _ _ _ h => h) (Or.inl ⟨by first | rfl | (simp [*, Region.wanted, yielded]), ?hyb7⟩) (by assumption) ?restb7
                        case hyb7 => (intro w hSw; (try dsimp only at hSw); go_simp <;> with_reducible rfl)
                        try simp only [Act.put, List.setIfInBounds_toArray, List.set_cons_zero, List.set_cons_succ]
                        refine take_d (i := 12) (d := some 54) (v := ?_) rfl rfl (by kernel_rfl) (by kernel_rfl) (by kernel_rfl) (fun _ _ _ h => h) (Or.inl ⟨by first | rfl | (simp [*, Region.wanted, yielded]), ?hyb8⟩) (by assumption) ?restb8
                        case hyb8 => (intro w hSw; (try dsimp only at hSw); go_simp <;> with_reducible rfl)
                        try simp only [Act.put, List.setIfInBounds_toArray, List.set_cons_zero, List.set_cons_succ]
                        refine take_d (i := 13) (d := some 55) (v := undef) rfl rfl (by kernel_rfl) (by kernel_rfl) (by kernel_rfl) (fun _ _ _ h => h) (Or.inr ⟨by first | rfl | (simp [*, Region.wanted, yielded]), rfl⟩) (by assumption) ?restb9
                        try simp only [Act.put, List.setIfInBounds_toArray, List.set_cons_zero, List.set_cons_succ]
                        refine take_d (i := 14) (d := some 56) (v := undef) rfl rfl (by kernel_rfl) (by kernel_rfl) (by kernel_rfl) (fun _ _ _ h => h) (Or.inr ⟨by first | rfl | (simp [*, Region.wanted, yielded]), rfl⟩) (by assumption) ?restb10
                        try simp only [Act.put, List.setIfInBounds_toArray, List.set_cons_zero, List.set_cons_succ]
                        refine take_d (i := 15) (d := some 57) (v := undef) rfl rfl (by kernel_rfl) (by kernel_rfl) (by kernel_rfl) (fun _ _ _ h => h) (Or.inr ⟨by first | rfl | (simp [*, Region.wanted, yielded]), rfl⟩) (by assumption) ?restb11
                        try simp only [Act.put, List.setIfInBounds_toArray, List.set_cons_zero, List.set_cons_succ]
                        refine take_d (i := 16) (d := some 58) (v := undef) rfl rfl (by kernel_rfl) (by kernel_rfl) (by kernel_rfl) (fun _ _ _ h => h) (Or.inr ⟨by first | rfl | (simp [*, Region.wanted, yielded]), rfl⟩) (by assumption) ?restb12
                        try simp only [Act.put, List.setIfInBounds_toArray, List.set_cons_zero, List.set_cons_succ]
                        refine take_d (i := 17) (d := some 59) (v := undef) rfl rfl (by kernel_rfl) (by kernel_rfl) (by kernel_rfl) (fun _ _ _ h => h) (Or.inr ⟨by first | rfl | (simp [*, Region.wanted, yielded]), rfl⟩) (by assumption) ?restb13
                        try simp only [Act.put, List.setIfInBounds_toArray, List.set_cons_zero, List.set_cons_succ]
                        refine take_d (i := 18) (d := some 60) (v := undef) rfl rfl (by kernel_rfl) (by kernel_rfl) (by kernel_rfl) (fun _ _ _ h => h) (Or.inr ⟨by first | rfl | (simp [*, Region.wanted, yielded]), rfl⟩) (by assumption) ?restb14
                        try simp only [Act.put, List.setIfInBounds_toArray, List.set_cons_zero, List.set_cons_succ]
                        refine take_d (i := 19) (d := some 61) (v := undef) rfl rfl (by kernel_rfl) (by kernel_rfl) (by kernel_rfl) (fun _ _ _ h => h) (Or.inr ⟨by first | rfl | (simp [*, Region.wanted, yielded]), rfl⟩) (by assumption) ?restb15
                        try simp only [Act.put, List.setIfInBounds_toArray, List.set_cons_zero, List.set_cons_succ]
                        refine take_d (i := 20) (d := some 62) (v := undef) rfl rfl (by kernel_rfl) (by kernel_rfl) (by kernel_rfl) (fun _ _ _ h => h) (Or.inr ⟨by first | rfl | (simp [*, Region.wanted, yielded]), rfl⟩) (by assumption) ?restb16
                        try simp only [Act.put, List.setIfInBounds_toArray, List.set_cons_zero, List.set_cons_succ]
                        refine take_d (i := 21) (d := some 63) (v := undef) rfl rfl (by kernel_rfl) (by kernel_rfl) (by kernel_rfl) (fun _ _ _ h => h) (Or.inr ⟨by first | rfl | (simp [*, Region.wanted, yielded]), rfl⟩) (by assumption) ?restb17
                        try simp only [Act.put, List.setIfInBounds_toArray, List.set_cons_zero, List.set_cons_succ]
                        refine take_d (i := 22) (d := some 64) (v := undef) rfl rfl (by kernel_rfl) (by kernel_rfl) (by kernel_rfl) (fun _ _ _ h => h) (Or.inr ⟨by first | rfl | (simp [*, Region.wanted, yielded]), rfl⟩) (by assumption) ?restb18
                        try simp only [Act.put, List.setIfInBounds_toArray, List.set_cons_zero, List.set_cons_succ]
                        refine take_d (i := 23) (d := some 65) (v := undef) rfl rfl (by kernel_rfl) (by kernel_rfl) (by kernel_rfl) (fun _ _ _ h => h) (Or.inr ⟨by first | rfl | (simp [*, Region.wanted, yielded]), rfl⟩) (by assumption) ?restb19
                        try simp only [Act.put, List.setIfInBounds_toArray, List.set_cons_zero, List.set_cons_succ]
                        refine take_d (i := 24) (d := some 66) (v := undef) rfl rfl (by kernel_rfl) (by kernel_rfl) (by kernel_rfl) (fun _ _ _ h => h) (Or.inr ⟨by first | rfl | (simp [*, Region.wanted, yielded]), rfl⟩) (by assumption) ?restb20
                        try simp only [Act.put, List.setIfInBounds_toArray, List.set_cons_zero, List.set_cons_succ]
                        refine take_d (i := 25) (d := some 67) (v := undef) rfl rfl (by kernel_rfl) (by kernel_rfl) (by kernel_rfl) (fun _ _ _ h => h) (Or.inr ⟨by first | rfl | (simp [*, Region.wanted, yielded]), rfl⟩) (by assumption) ?restb21
                        try simp only [Act.put, List.setIfInBounds_toArray, List.set_cons_zero, List.set_cons_succ]
                        refine take_d (i := 26) (d := some 68) (v := undef) rfl rfl (by kernel_rfl) (by kernel_rfl) (by kernel_rfl) (fun _ _ _ h => h) (Or.inr ⟨by first | rfl | (simp [*, Region.wanted, yielded]), rfl⟩) (by assumption) ?restb22
                        try simp only [Act.put, List.setIfInBounds_toArray, List.set_cons_zero, List.set_cons_succ]
                        refine take_d (i := 27) (d := some 69) (v := undef) rfl rfl (by kernel_rfl) (by kernel_rfl) (by kernel_rfl) (fun _ _ _ h => h) (Or.inr ⟨by first | rfl | (simp [*, Region.wanted, yielded]), rfl⟩) (by assumption) ?restb23
                        try simp only [Act.put, List.setIfInBounds_toArray, List.set_cons_zero, List.set_cons_succ]
                        refine take_d (i := 28) (d := some 70) (v := ?_) rfl rfl (by kernel_rfl) (by kernel_rfl) (by kernel_rfl) (fun _ _ _ h => h) (Or.inl ⟨by first | rfl | (simp [*, Region.wanted, yielded]), ?hyb24⟩) (by assumption) ?restb24
                        case hyb24 => (intro w hSw; (try dsimp only at hSw); go_simp <;> with_reducible rfl)
                        try simp only [Act.put, List.setIfInBounds_toArray, List.set_cons_zero, List.set_cons_succ]
                        refine take_d (i := 29) (d := some 71) (v := ?_) rfl rfl (by kernel_rfl) (by kernel_rfl) (by kernel_rfl) (fun _ _ _ h => h) (Or.inl ⟨by first | rfl | (simp [*, Region.wanted, yielded]), ?hyb25⟩) (by assumption) ?restb25
                        case hyb25 => (intro w hSw; (try dsimp only at hSw); go_simp <;> with_reducible rfl)
                        try simp only [Act.put, List.setIfInBounds_toArray, List.set_cons_zero, List.set_cons_succ]
                        refine wpAnyH_done (by kernel_rfl) ?_ _
                        go_simp
                        have P7 := hid p7
                        clear hown3 hgrow3 hown6 hgrow6 p3 p6 z3 y3 hb7 hg9
                        go_wp2_with fail
                        go_meet
                        case rel => exact ⟨_, rfl, hid (fun h => HTr.out (by first | exact h | trivial)), hid (fun h => HFa.out (by first | exact h | trivial)), P7⟩
                      · go_simp
                        go_wp2_with fail
                        refine hK.out _ _ (HKp.out _ (by repeat (first | exact hr | exact p3 | exact p6 | apply Below.drew | (refine Below.alloc ?_ (by first | exact Below.size (by assumption) | omega | (simp; done) | (simp; omega)) _)))) (fun hHeld => ?_)
                        clear hK K
                        try simp only [Act.put, List.setIfInBounds_toArray, List.set_cons_zero, List.set_cons_succ]
                        refine wpAnyH_ready (rs := [3]) (by kernel_rfl) (by simp) ?_
                        refine AllReadyH.cons (o := _) rfl (fun K hK => ?_) AllReadyH.nil
                        refine step_append_srcZ (by rfl) _ _ 23 (by rfl) wr.heap.size i0 Try.underlying23 hinf hz0 hz1 hz2 _ [] (by rfl) (zown_empty (by repeat (first | (with_reducible exact zblk_new _ _ _ (by first | rfl | (simp; done))) | (with_reducible refine zblk_alloc _ ?_) | (with_reducible refine zblk_drew ?_))) (by first | omega | (simp; done) | (simp; omega))) (some ⟨go, 0, none⟩) tl co T (by rfl) HTl.out (HSrc.out _ (by repeat (first | exact hr | exact p3 | exact p6 | apply Below.drew | (refine Below.alloc ?_ (by first | exact Below.size (by assumption) | omega | (simp; done) | (simp; omega)) _)))) (by simp; omega) (by first | omega | (simp; done) | (simp; omega)) ?_
                        intro v3 w3 hown3 hgrow3
                        have p3 : Below wr.heap.size wr w3 := Below.grown (by repeat (first | exact hr | exact p3 | exact p6 | apply Below.drew | (refine Below.alloc ?_ (by first | exact Below.size (by assumption) | omega | (simp; done) | (simp; omega)) _))) hgrow3 (by first | omega | (simp; done) | (simp; omega)) (zemp_ge (by first | omega | (simp; done) | (simp; omega)))
                        simp only [List.nil_append] at hown3
                        have z3 := p3.size
                        have y3 := hgrow3.size
                        refine hK.out _ _ (HKp.out _ p3) (fun hHeld => ?_)
                        clear hK K
                        try simp only [Act.put, List.setIfInBounds_toArray, List.set_cons_zero, List.set_cons_succ]
                        refine wpAnyH_ready (rs := [6]) (by kernel_rfl) (by simp) ?_
                        refine AllReadyH.cons (o := _) rfl (fun K hK => ?_) AllReadyH.nil
                        refine step_append_srcZ (by rfl) _ _ 23 (by rfl) wr.heap.size i0 Try.underlying23 hinf hz0 hz1 hz2 v3 T (by rfl) (by repeat (first | (with_reducible exact hown3) | (with_reducible refine zown_alloc ?_ _) | (with_reducible refine zown_drew ?_))) _ 1 _ [(s : Int)] (by rfl) (by rfl) (zsrc_one (by repeat (first | (with_reducible exact zblk_new _ _ _ (by first | rfl | (simp; done))) | (with_reducible refine zblk_alloc _ ?_) | (with_reducible refine zblk_drew ?_) | (with_reducible refine zblk_grown hgrow3 ?_ ?_) | (exact zemp_ne (by first | omega | (simp; done) | (simp; omega)))))) (by rw [HTl.out]; omega) (by first | omega | (simp; done) | (simp; omega)) ?_
                        intro v6 w6 hown6 hgrow6
                        have p6 : Below wr.heap.size wr w6 := Below.grown (by repeat (first | exact hr | exact p3 | exact p6 | apply Below.drew | (refine Below.alloc ?_ (by first | exact Below.size (by assumption) | omega | (simp; done) | (simp; omega)) _))) hgrow6 (by first | omega | (simp; done) | (simp; omega)) (zown_ge hown3)
                        refine hK.out _ _ (HKp.out _ p6) (fun hHeld => ?_)
                        clear hK K
                        try simp only [Act.put, List.setIfInBounds_toArray, List.set_cons_zero, List.set_cons_succ]
                        refine wpAnyH_ready (rs := [7]) (by kernel_rfl) (by simp) ?_
                        refine AllReadyH.cons (o := _) rfl (fun K hK => ?_) AllReadyH.nil
                        go_simp
                        obtain ⟨g9, c9, rfl, hg9⟩ := zown_some hown6 HTs.out (Nat.succ_pos tl)
                        refine (HIs.out _ _ c9 (own_intsR hown6 (by rw [HTs.out]; omega) HTb.out)).mono ?_
                        rintro e w7 ⟨hb7, rfl⟩
                        have p7 : Below wr.heap.size wr w7 := p6.trans (hb7.mono p6.size)
                        go_wp2_with fail
                        refine hK.out _ _ (HKp.out _ p7) (fun hHeld => ?_)
                        clear hK K
                        try simp only [Act.put, List.setIfInBounds_toArray, List.set_cons_zero, List.set_cons_succ]
                        refine take_d (i := 8) (d := some 50) (v := ?_) rfl rfl (by kernel_rfl) (by kernel_rfl) (by kernel_rfl) (fun _ _ _ h => h) (Or.inl ⟨by first | rfl | (simp [*, Region.wanted, yielded]), ?hyb26⟩) (by assumption) ?restb26
                        case hyb26 => (intro w hSw; (try dsimp only at hSw); go_simp <;> with_reducible rfl)
                        try simp only [Act.put, List.setIfInBounds_toArray, List.set_cons_zero, List.set_cons_succ]
                        refine take_d (i := 9) (d := some 51) (v := ?_) rfl rfl (by kernel_rfl) (by kernel_rfl) (by kernel_rfl) (fun _ _ _ h => h) (Or.inl ⟨by first | rfl | (simp [*, Region.wanted, yielded]), ?hyb27⟩) (by assumption) ?restb27
                        case hyb27 => (intro w hSw; (try dsimp only at hSw); go_simp <;> with_reducible rfl)
                        try simp only [Act.put, List.setIfInBounds_toArray, List.set_cons_zero, List.set_cons_succ]
                        refine take_d (i := 10) (d := some 52) (v := ?_) rfl rfl (by kernel_rfl) (by kernel_rfl) (by kernel_rfl) (fun _ _ _ h => h) (Or.inl ⟨by first | rfl | (simp [*, Region.wanted, yielded]), ?hyb28⟩) (by assumption) ?restb28
                        case hyb28 => (intro w hSw; (try dsimp only at hSw); go_simp <;> with_reducible rfl)
                        try simp only [Act.put, List.setIfInBounds_toArray, List.set_cons_zero, List.set_cons_succ]
                        refine take_d (i := 11) (d := some 53) (v := ?_) rfl rfl (by kernel_rfl) (by kernel_rfl) (by kernel_rfl) (fun _ _ _ h => h) (Or.inl ⟨by first | rfl | (simp [*, Region.wanted, yielded]), ?hyb29⟩) (by assumption) ?restb29
                        case hyb29 => (intro w hSw; (try dsimp only at hSw); go_simp <;> with_reducible rfl)
                        try simp only [Act.put, List.setIfInBounds_toArray, List.set_cons_zero, List.set_cons_succ]
                        refine take_d (i := 12) (d := some 54) (v := ?_) rfl rfl (by kernel_rfl) (by kernel_rfl) (by kernel_rfl) (fun _ _ _ h => h) (Or.inl ⟨by first | rfl | (simp [*, Region.wanted, yielded]), ?hyb30⟩) (by assumption) ?restb30
                        case hyb30 => (intro w hSw; (try dsimp only at hSw); go_simp <;> with_reducible rfl)
                        try simp only [Act.put, List.setIfInBounds_toArray, List.set_cons_zero, List.set_cons_succ]
                        refine take_d (i := 13) (d := some 55) (v := undef) rfl rfl (by kernel_rfl) (by kernel_rfl) (by kernel_rfl) (fun _ _ _ h => h) (Or.inr ⟨by first | rfl | (simp [*, Region.wanted, yielded]), rfl⟩) (by assumption) ?restb31
                        try simp only [Act.put, List.setIfInBounds_toArray, List.set_cons_zero, List.set_cons_succ]
                        refine take_d (i := 14) (d := some 56) (v := undef) rfl rfl (by kernel_rfl) (by kernel_rfl) (by kernel_rfl) (fun _ _ _ h => h) (Or.inr ⟨by first | rfl | (simp [*, Region.wanted, yielded]), rfl⟩) (by assumption) ?restb32
                        try simp only [Act.put, List.setIfInBounds_toArray, List.set_cons_zero, List.set_cons_succ]
                        refine take_d (i := 15) (d := some 57) (v := undef) rfl rfl (by kernel_rfl) (by kernel_rfl) (by kernel_rfl) (fun _ _ _ h => h) (Or.inr ⟨by first | rfl | (simp [*, Region.wanted, yielded]), rfl⟩) (by assumption) ?restb33
                        try simp only [Act.put, List.setIfInBounds_toArray, List.set_cons_zero, List.set_cons_succ]
                        refine take_d (i := 16) (d := some 58) (v := undef) rfl rfl (by kernel_rfl) (by kernel_rfl) (by kernel_rfl) (fun _ _ _ h => h) (Or.inr ⟨by first | rfl | (simp [*, Region.wanted, yielded]), rfl⟩) (by assumption) ?restb34
                        try simp only [Act.put, List.setIfInBounds_toArray, List.set_cons_zero, List.set_cons_succ]
                        refine take_d (i := 17) (d := some 59) (v := undef) rfl rfl (by kernel_rfl) (by kernel_rfl) (by kernel_rfl) (fun _ _ _ h => h) (Or.inr ⟨by first | rfl | (simp [*, Region.wanted, yielded]), rfl⟩) (by assumption) ?restb35
                        try simp only [Act.put, List.setIfInBounds_toArray, List.set_cons_zero, List.set_cons_succ]
                        refine take_d (i := 18) (d := some 60) (v := undef) rfl rfl (by kernel_rfl) (by kernel_rfl) (by kernel_rfl) (fun _ _ _ h => h) (Or.inr ⟨by first | rfl | (simp [*, Region.wanted, yielded]), rfl⟩) (by assumption) ?restb36
                        try simp only [Act.put, List.setIfInBounds_toArray, List.set_cons_zero, List.set_cons_succ]
                        refine take_d (i := 19) (d := some 61) (v := undef) rfl rfl (by kernel_rfl) (by kernel_rfl) (by kernel_rfl) (fun _ _ _ h => h) (Or.inr ⟨by first | rfl | (simp [*, Region.wanted, yielded]), rfl⟩) (by assumption) ?restb37
                        try simp only [Act.put, List.setIfInBounds_toArray, List.set_cons_zero, List.set_cons_succ]
                        refine take_d (i := 20) (d := some 62) (v := undef) rfl rfl (by kernel_rfl) (by kernel_rfl) (by kernel_rfl) (fun _ _ _ h => h) (Or.inr ⟨by first | rfl | (simp [*, Region.wanted, yielded]), rfl⟩) (by assumption) ?restb38
                        try simp only [Act.put, List.setIfInBounds_toArray, List.set_cons_zero, List.set_cons_succ]
                        refine take_d (i := 21) (d := some 63) (v := undef) rfl rfl (by kernel_rfl) (by kernel_rfl) (by kernel_rfl) (fun _ _ _ h => h) (Or.inr ⟨by first | rfl | (simp [*, Region.wanted, yielded]), rfl⟩) (by assumption) ?restb39
                        try simp only [Act.put, List.setIfInBounds_toArray, List.set_cons_zero, List.set_cons_succ]
                        refine take_d (i := 22) (d := some 64) (v := undef) rfl rfl (by kernel_rfl) (by kernel_rfl) (by kernel_rfl) (fun _ _ _ h => h) (Or.inr ⟨by first | rfl | (simp [*, Region.wanted, yielded]), rfl⟩) (by assumption) ?restb40
                        try simp only [Act.put, List.setIfInBounds_toArray, List.set_cons_zero, List.set_cons_succ]
                        refine take_d (i := 23) (d := some 65) (v := undef) rfl rfl (by kernel_rfl) (by kernel_rfl) (by kernel_rfl) (fun _ _ _ h => h) (Or.inr ⟨by first | rfl | (simp [*, Region.wanted, yielded]), rfl⟩) (by assumption) ?restb41
                        try simp only [Act.put, List.setIfInBounds_toArray, List.set_cons_zero, List.set_cons_succ]
                        refine take_d (i := 24) (d := some 66) (v := undef) rfl rfl (by kernel_rfl) (by kernel_rfl) (by kernel_rfl) (fun _ _ _ h => h) (Or.inr ⟨by first | rfl | (simp [*, Region.wanted, yielded]), rfl⟩) (by assumption) ?restb42
                        try simp only [Act.put, List.setIfInBounds_toArray, List.set_cons_zero, List.set_cons_succ]
                        refine take_d (i := 25) (d := some 67) (v := undef) rfl rfl (by kernel_rfl) (by kernel_rfl) (by kernel_rfl) (fun _ _ _ h => h) (Or.inr ⟨by first | rfl | (simp [*, Region.wanted, yielded]), rfl⟩) (by assumption) ?restb43
                        try simp only [Act.put, List.setIfInBounds_toArray, List.set_cons_zero, List.set_cons_succ]
                        refine take_d (i := 26) (d := some 68) (v := undef) rfl rfl (by kernel_rfl) (by kernel_rfl) (by kernel_rfl) (fun _ _ _ h => h) (Or.inr ⟨by first | rfl | (simp [*, Region.wanted, yielded]), rfl⟩) (by assumption) ?restb44
                        try simp only [Act.put, List.setIfInBounds_toArray, List.set_cons_zero, List.set_cons_succ]
                        refine take_d (i := 27) (d := some 69) (v := undef) rfl rfl (by kernel_rfl) (by kernel_rfl) (by kernel_rfl) (fun _ _ _ h => h) (Or.inr ⟨by first | rfl | (simp [*, Region.wanted, yielded]), rfl⟩) (by assumption) ?restb45
                        try simp only [Act.put, List.setIfInBounds_toArray, List.set_cons_zero, List.set_cons_succ]
                        refine take_d (i := 28) (d := some 70) (v := ?_) rfl rfl (by kernel_rfl) (by kernel_rfl) (by kernel_rfl) (fun _ _ _ h => h) (Or.inl ⟨by first | rfl | (simp [*, Region.wanted, yielded]), ?hyb46⟩) (by assumption) ?restb46
                        case hyb46 => (intro w hSw; (try dsimp only at hSw); go_simp <;> with_reducible rfl)
                        try simp only [Act.put, List.setIfInBounds_toArray, List.set_cons_zero, List.set_cons_succ]
                        refine take_d (i := 29) (d := some 71) (v := ?_) rfl rfl (by kernel_rfl) (by kernel_rfl) (by kernel_rfl) (fun _ _ _ h => h) (Or.inl ⟨by first | rfl | (simp [*, Region.wanted, yielded]), ?hyb47⟩) (by assumption) ?restb47
                        case hyb47 => (intro w hSw; (try dsimp only at hSw); go_simp <;> with_reducible rfl)
                        try simp only [Act.put, List.setIfInBounds_toArray, List.set_cons_zero, List.set_cons_succ]
                        refine wpAnyH_done (by kernel_rfl) ?_ _
                        go_simp
                        have P7 := hid p7
                        clear hown3 hgrow3 hown6 hgrow6 p3 p6 z3 y3 hb7 hg9
                        go_wp2_with fail
                        go_meet
                        case rel => exact ⟨_, rfl, hid (fun h => HTr.out (by first | exact h | trivial)), hid (fun h => HFa.out (by first | exact h | trivial)), P7⟩
                    · go_simp
                      go_wp2_with fail
                      refine hK.out _ _ (HKp.out _ (by repeat (first | exact hr | exact p3 | exact p6 | apply Below.drew | (refine Below.alloc ?_ (by first | exact Below.size (by assumption) | omega | (simp; done) | (simp; omega)) _)))) (fun hHeld => ?_)
                      clear hK K
                      try simp only [Act.put, List.setIfInBounds_toArray, List.set_cons_zero, List.set_cons_succ]
                      refine wpAnyH_ready (rs := [1]) (by kernel_rfl) (by simp) ?_
                      refine AllReadyH.cons (o := _) rfl (fun K hK => ?_) AllReadyH.nil
                      go_simp
                      go_wp2_with fail
                      refine hK.out _ _ (HKp.out _ (by repeat (first | exact hr | exact p3 | exact p6 | apply Below.drew | (refine Below.alloc ?_ (by first | exact Below.size (by assumption) | omega | (simp; done) | (simp; omega)) _)))) (fun hHeld => ?_)
                      clear hK K
                      try simp only [Act.put, List.setIfInBounds_toArray, List.set_cons_zero, List.set_cons_succ]
                      refine wpAnyH_ready (rs := [3]) (by kernel_rfl) (by simp) ?_
                      refine AllReadyH.cons (o := _) rfl (fun K hK => ?_) AllReadyH.nil
                      refine step_append_srcZ (by rfl) _ _ 23 (by rfl) wr.heap.size i0 Try.underlying23 hinf hz0 hz1 hz2 _ [] (by rfl) (zown_empty (by repeat (first | (with_reducible exact zblk_new _ _ _ (by first | rfl | (simp; done))) | (with_reducible refine zblk_alloc _ ?_) | (with_reducible refine zblk_drew ?_))) (by first | omega | (simp; done) | (simp; omega))) (some ⟨go, 0, none⟩) tl co T (by rfl) HTl.out (HSrc.out _ (by repeat (first | exact hr | exact p3 | exact p6 | apply Below.drew | (refine Below.alloc ?_ (by first | exact Below.size (by assumption) | omega | (simp; done) | (simp; omega)) _)))) (by simp; omega) (by first | omega | (simp; done) | (simp; omega)) ?_
                      intro v3 w3 hown3 hgrow3
                      have p3 : Below wr.heap.size wr w3 := Below.grown (by repeat (first | exact hr | exact p3 | exact p6 | apply Below.drew | (refine Below.alloc ?_ (by first | exact Below.size (by assumption) | omega | (simp; done) | (simp; omega)) _))) hgrow3 (by first | omega | (simp; done) | (simp; omega)) (zemp_ge (by first | omega | (simp; done) | (simp; omega)))
                      simp only [List.nil_append] at hown3
                      have z3 := p3.size
                      have y3 := hgrow3.size
                      refine hK.out _ _ (HKp.out _ p3) (fun hHeld => ?_)
                      clear hK K
                      try simp only [Act.put, List.setIfInBounds_toArray, List.set_cons_zero, List.set_cons_succ]
                      refine wpAnyH_ready (rs := [6]) (by kernel_rfl) (by simp) ?_
                      refine AllReadyH.cons (o := _) rfl (fun K hK => ?_) AllReadyH.nil
                      refine step_append_srcZ (by rfl) _ _ 23 (by rfl) wr.heap.size i0 Try.underlying23 hinf hz0 hz1 hz2 v3 T (by rfl) (by repeat (first | (with_reducible exact hown3) | (with_reducible refine zown_alloc ?_ _) | (with_reducible refine zown_drew ?_))) _ 1 _ [(s : Int)] (by rfl) (by rfl) (zsrc_one (by repeat (first | (with_reducible exact zblk_new _ _ _ (by first | rfl | (simp; done))) | (with_reducible refine zblk_alloc _ ?_) | (with_reducible refine zblk_drew ?_) | (with_reducible refine zblk_grown hgrow3 ?_ ?_) | (exact zemp_ne (by first | omega | (simp; done) | (simp; omega)))))) (by rw [HTl.out]; omega) (by first | omega | (simp; done) | (simp; omega)) ?_
                      intro v6 w6 hown6 hgrow6
                      have p6 : Below wr.heap.size wr w6 := Below.grown (by repeat (first | exact hr | exact p3 | exact p6 | apply Below.drew | (refine Below.alloc ?_ (by first | exact Below.size (by assumption) | omega | (simp; done) | (simp; omega)) _))) hgrow6 (by first | omega | (simp; done) | (simp; omega)) (zown_ge hown3)
                      refine hK.out _ _ (HKp.out _ p6) (fun hHeld => ?_)
                      clear hK K
                      try simp only [Act.put, List.setIfInBounds_toArray, List.set_cons_zero, List.set_cons_succ]
                      refine wpAnyH_ready (rs := [7]) (by kernel_rfl) (by simp) ?_
                      refine AllReadyH.cons (o := _) rfl (fun K hK => ?_) AllReadyH.nil
                      go_simp
                      obtain ⟨g9, c9, rfl, hg9⟩ := zown_some hown6 HTs.out (Nat.succ_pos tl)
                      refine (HIs.out _ _ c9 (own_intsR hown6 (by rw [HTs.out]; omega) HTb.out)).mono ?_
                      rintro e w7 ⟨hb7, rfl⟩
                      have p7 : Below wr.heap.size wr w7 := p6.trans (hb7.mono p6.size)
                      go_wp2_with fail
                      refine hK.out _ _ (HKp.out _ p7) (fun hHeld => ?_)
                      clear hK K
                      try simp only [Act.put, List.setIfInBounds_toArray, List.set_cons_zero, List.set_cons_succ]
                      refine take_d (i := 8) (d := some 50) (v := ?_) rfl rfl (by kernel_rfl) (by kernel_rfl) (by kernel_rfl) (fun _ _ _ h => h) (Or.inl ⟨by first | rfl | (simp [*, Region.wanted, yielded]), ?hyb48⟩) (by assumption) ?restb48
                      case hyb48 => (intro w hSw; (try dsimp only at hSw); go_simp <;> with_reducible rfl)
                      try simp only [Act.put, List.setIfInBounds_toArray, List.set_cons_zero, List.set_cons_succ]
                      refine take_d (i := 9) (d := some 51) (v := ?_) rfl rfl (by kernel_rfl) (by kernel_rfl) (by kernel_rfl) (fun _ _ _ h => h) (Or.inl ⟨by first | rfl | (simp [*, Region.wanted, yielded]), ?hyb49⟩) (by assumption) ?restb49
                      case hyb49 => (intro w hSw; (try dsimp only at hSw); go_simp <;> with_reducible rfl)
                      try simp only [Act.put, List.setIfInBounds_toArray, List.set_cons_zero, List.set_cons_succ]
                      refine take_d (i := 10) (d := some 52) (v := ?_) rfl rfl (by kernel_rfl) (by kernel_rfl) (by kernel_rfl) (fun _ _ _ h => h) (Or.inl ⟨by first | rfl | (simp [*, Region.wanted, yielded]), ?hyb50⟩) (by assumption) ?restb50
                      case hyb50 => (intro w hSw; (try dsimp only at hSw); go_simp <;> with_reducible rfl)
                      try simp only [Act.put, List.setIfInBounds_toArray, List.set_cons_zero, List.set_cons_succ]
                      refine take_d (i := 11) (d := some 53) (v := ?_) rfl rfl (by kernel_rfl) (by kernel_rfl) (by kernel_rfl) (fun _ _ _ h => h) (Or.inl ⟨by first | rfl | (simp [*, Region.wanted, yielded]), ?hyb51⟩) (by assumption) ?restb51
                      case hyb51 => (intro w hSw; (try dsimp only at hSw); go_simp <;> with_reducible rfl)
                      try simp only [Act.put, List.setIfInBounds_toArray, List.set_cons_zero, List.set_cons_succ]
                      refine take_d (i := 12) (d := some 54) (v := ?_) rfl rfl (by kernel_rfl) (by kernel_rfl) (by kernel_rfl) (fun _ _ _ h => h) (Or.inl ⟨by first | rfl | (simp [*, Region.wanted, yielded]), ?hyb52⟩) (by assumption) ?restb52
                      case hyb52 => (intro w hSw; (try dsimp only at hSw); go_simp <;> with_reducible rfl)
                      try simp only [Act.put, List.setIfInBounds_toArray, List.set_cons_zero, List.set_cons_succ]
                      refine take_d (i := 13) (d := some 55) (v := undef) rfl rfl (by kernel_rfl) (by kernel_rfl) (by kernel_rfl) (fun _ _ _ h => h) (Or.inr ⟨by first | rfl | (simp [*, Region.wanted, yielded]), rfl⟩) (by assumption) ?restb53
                      try simp only [Act.put, List.setIfInBounds_toArray, List.set_cons_zero, List.set_cons_succ]
                      refine take_d (i := 14) (d := some 56) (v := undef) rfl rfl (by kernel_rfl) (by kernel_rfl) (by kernel_rfl) (fun _ _ _ h => h) (Or.inr ⟨by first | rfl | (simp [*, Region.wanted, yielded]), rfl⟩) (by assumption) ?restb54
                      try simp only [Act.put, List.setIfInBounds_toArray, List.set_cons_zero, List.set_cons_succ]
                      refine take_d (i := 15) (d := some 57) (v := undef) rfl rfl (by kernel_rfl) (by kernel_rfl) (by kernel_rfl) (fun _ _ _ h => h) (Or.inr ⟨by first | rfl | (simp [*, Region.wanted, yielded]), rfl⟩) (by assumption) ?restb55
                      try simp only [Act.put, List.setIfInBounds_toArray, List.set_cons_zero, List.set_cons_succ]
                      refine take_d (i := 16) (d := some 58) (v := undef) rfl rfl (by kernel_rfl) (by kernel_rfl) (by kernel_rfl) (fun _ _ _ h => h) (Or.inr ⟨by first | rfl | (simp [*, Region.wanted, yielded]), rfl⟩) (by assumption) ?restb56
                      try simp only [Act.put, List.setIfInBounds_toArray, List.set_cons_zero, List.set_cons_succ]
                      refine take_d (i := 17) (d := some 59) (v := undef) rfl rfl (by kernel_rfl) (by kernel_rfl) (by kernel_rfl) (fun _ _ _ h => h) (Or.inr ⟨by first | rfl | (simp [*, Region.wanted, yielded]), rfl⟩) (by assumption) ?restb57
                      try simp only [Act.put, List.setIfInBounds_toArray, List.set_cons_zero, List.set_cons_succ]
                      refine take_d (i := 18) (d := some 60) (v := undef) rfl rfl (by kernel_rfl) (by kernel_rfl) (by kernel_rfl) (fun _ _ _ h => h) (Or.inr ⟨by first | rfl | (simp [*, Region.wanted, yielded]), rfl⟩) (by assumption) ?restb58
                      try simp only [Act.put, List.setIfInBounds_toArray, List.set_cons_zero, List.set_cons_succ]
                      refine take_d (i := 19) (d := some 61) (v := undef) rfl rfl (by kernel_rfl) (by kernel_rfl) (by kernel_rfl) (fun _ _ _ h => h) (Or.inr ⟨by first | rfl | (simp [*, Region.wanted, yielded]), rfl⟩) (by assumption) ?restb59
                      try simp only [Act.put, List.setIfInBounds_toArray, List.set_cons_zero, List.set_cons_succ]
                      refine take_d (i := 20) (d := some 62) (v := undef) rfl rfl (by kernel_rfl) (by kernel_rfl) (by kernel_rfl) (fun _ _ _ h => h) (Or.inr ⟨by first | rfl | (simp [*, Region.wanted, yielded]), rfl⟩) (by assumption) ?restb60
                      try simp only [Act.put, List.setIfInBounds_toArray, List.set_cons_zero, List.set_cons_succ]
                      refine take_d (i := 21) (d := some 63) (v := undef) rfl rfl (by kernel_rfl) (by kernel_rfl) (by kernel_rfl) (fun _ _ _ h => h) (Or.inr ⟨by first | rfl | (simp [*, Region.wanted, yielded]), rfl⟩) (by assumption) ?restb61
                      try simp only [Act.put, List.setIfInBounds_toArray, List.set_cons_zero, List.set_cons_succ]
                      refine take_d (i := 22) (d := some 64) (v := undef) rfl rfl (by kernel_rfl) (by kernel_rfl) (by kernel_rfl) (fun _ _ _ h => h) (Or.inr ⟨by first | rfl | (simp [*, Region.wanted, yielded]), rfl⟩) (by assumption) ?restb62
                      try simp only [Act.put, List.setIfInBounds_toArray, List.set_cons_zero, List.set_cons_succ]
                      refine take_d (i := 23) (d := some 65) (v := undef) rfl rfl (by kernel_rfl) (by kernel_rfl) (by kernel_rfl) (fun _ _ _ h => h) (Or.inr ⟨by first | rfl | (simp [*, Region.wanted, yielded]), rfl⟩) (by assumption) ?restb63
                      try simp only [Act.put, List.setIfInBounds_toArray, List.set_cons_zero, List.set_cons_succ]
                      refine take_d (i := 24) (d := some 66) (v := undef) rfl rfl (by kernel_rfl) (by kernel_rfl) (by kernel_rfl) (fun _ _ _ h => h) (Or.inr ⟨by first | rfl | (simp [*, Region.wanted, yielded]), rfl⟩) (by assumption) ?restb64
                      try simp only [Act.put, List.setIfInBounds_toArray, List.set_cons_zero, List.set_cons_succ]
                      refine take_d (i := 25) (d := some 67) (v := undef) rfl rfl (by kernel_rfl) (by kernel_rfl) (by kernel_rfl) (fun _ _ _ h => h) (Or.inr ⟨by first | rfl | (simp [*, Region.wanted, yielded]), rfl⟩) (by assumption) ?restb65
                      try simp only [Act.put, List.setIfInBounds_toArray, List.set_cons_zero, List.set_cons_succ]
                      refine take_d (i := 26) (d := some 68) (v := undef) rfl rfl (by kernel_rfl) (by kernel_rfl) (by kernel_rfl) (fun _ _ _ h => h) (Or.inr ⟨by first | rfl | (simp [*, Region.wanted, yielded]), rfl⟩) (by assumption) ?restb66
                      try simp only [Act.put, List.setIfInBounds_toArray, List.set_cons_zero, List.set_cons_succ]
                      refine take_d (i := 27) (d := some 69) (v := undef) rfl rfl (by kernel_rfl) (by kernel_rfl) (by kernel_rfl) (fun _ _ _ h => h) (Or.inr ⟨by first | rfl | (simp [*, Region.wanted, yielded]), rfl⟩) (by assumption) ?restb67
                      try simp only [Act.put, List.setIfInBounds_toArray, List.set_cons_zero, List.set_cons_succ]
                      refine take_d (i := 28) (d := some 70) (v := ?_) rfl rfl (by kernel_rfl) (by kernel_rfl) (by kernel_rfl) (fun _ _ _ h => h) (Or.inl ⟨by first | rfl | (simp [*, Region.wanted, yielded]), ?hyb68⟩) (by assumption) ?restb68
                      case hyb68 => (intro w hSw; (try dsimp only at hSw); go_simp <;> with_reducible rfl)
                      try simp only [Act.put, List.setIfInBounds_toArray, List.set_cons_zero, List.set_cons_succ]
                      refine take_d (i := 29) (d := some 71) (v := ?_) rfl rfl (by kernel_rfl) (by kernel_rfl) (by kernel_rfl) (fun _ _ _ h => h) (Or.inl ⟨by first | rfl | (simp [*, Region.wanted, yielded]), ?hyb69⟩) (by assumption) ?restb69
                      case hyb69 => (intro w hSw; (try dsimp only at hSw); go_simp <;> with_reducible rfl)
                      try simp only [Act.put, List.setIfInBounds_toArray, List.set_cons_zero, List.set_cons_succ]
                      refine wpAnyH_done (by kernel_rfl) ?_ _
                      go_simp
                      have P7 := hid p7
                      clear hown3 hgrow3 hown6 hgrow6 p3 p6 z3 y3 hb7 hg9
                      go_wp2_with fail
                      go_meet
                      case rel => exact ⟨_, rfl, hid (fun h => HTr.out (by first | exact h | trivial)), hid (fun h => HFa.out (by first | exact h | trivial)), P7⟩

                  · have hb0 : 0 ≤ best := by omega
                    obtain ⟨bn, rfl⟩ := Int.eq_ofNat_of_zero_le hb0
                    have hbb := (HBe.out.yes hb0).1
                    have hb1 : decide ((bn : Int) < 0) = false := decide_eq_false hbn
                    have hbnn : ¬ (bn : Int) < 0 := hbn
                    obtain ⟨b1, o1, rfl, HC⟩ := ((HT.out.below HB3.out).below HX.out).sq HWy.out.sq hpos
                    obtain ⟨b2, o2, c2, r0, _, r1⟩ := HC yn (by omega)
                    have r2 := r1 s hsl
                    have r3 := r1 bn (by omega)
                    have HLs := hid (show lastP T T.length = (yn : Int) from HLast.out)
                    have HTk := hid (fun (h : tA t (yn : Int) (s : Int) < tA t (yn : Int) (bn : Int)) => HBe.out.take hs1 HNin.out (.inr (by rw [HLs.out]; exact h)))
                    have HKe := hid (fun (h : ¬ tA t (yn : Int) (s : Int) < tA t (yn : Int) (bn : Int)) => HBe.out.keep hb0 (by rw [HLs.out]; omega))
                    obtain ⟨rs, hrs⟩ : ∃ rs, tA t (yn : Int) (s : Int) = rs := ⟨_, rfl⟩
                    obtain ⟨rb, hrb⟩ : ∃ rb, tA t (yn : Int) (bn : Int) = rb := ⟨_, rfl⟩
                    rw [hrs] at r2 HTk HKe
                    rw [hrb] at r3 HTk HKe
                    have q4 : (bn : Int) < (t.length : Int) := by omega
                    have HTr := hid (fun (h : decide (rs < rb) = true) => HTk.out (of_decide_eq_true h))
                    have HFa := hid (fun (h : decide (rs < rb) = false) => HKe.out (of_decide_eq_false h))
                    have HKp := hid (fun (W : World) (hb : Below wr.heap.size wr W) => (show W.cell? ⟨b1, o1 + yn, none⟩ = some (.slice (some ⟨b2, o2, none⟩) t.length c2) ∧ W.cell? ⟨b2, o2 + s, none⟩ = some (.int .i64 rs) ∧ W.cell? ⟨b2, o2 + bn, none⟩ = some (.int .i64 rb) ∧ Below wr.heap.size wr W from ⟨(hb.cell (cell_lt r0)).trans r0, (hb.cell (cell_lt r2)).trans r2, (hb.cell (cell_lt r3)).trans r3, hb⟩))
                    clear HC r1 hrs hrb hbn hb0 hbb r0 r2 r3
                    refine wp_region_held_drew (S := (fun w' => w'.cell? ⟨b1, o1 + yn, none⟩ = some (.slice (some ⟨b2, o2, none⟩) t.length c2) ∧ w'.cell? ⟨b2, o2 + s, none⟩ = some (.int .i64 rs) ∧ w'.cell? ⟨b2, o2 + bn, none⟩ = some (.int .i64 rb) ∧ Below wr.heap.size wr w')) (by kernel_rfl) (HKp.out _ hr.drew) (fun hHeld => ?_)
                    refine take_d (i := 0) (d := some 42) (v := ?_) rfl rfl (by kernel_rfl) (by kernel_rfl) (by kernel_rfl) (fun _ _ _ h => h) (Or.inl ⟨by first | rfl | (simp [*, Region.wanted, yielded]), ?hyc1⟩) (by assumption) ?restc1
                    case hyc1 => (intro w hSw; (try dsimp only at hSw); go_simp <;> with_reducible rfl)
                    try simp only [Act.put, List.setIfInBounds_toArray, List.set_cons_zero, List.set_cons_succ]
                    refine take_d (i := 2) (d := some 44) (v := ?_) rfl rfl (by kernel_rfl) (by kernel_rfl) (by kernel_rfl) (fun _ _ _ h => h) (Or.inl ⟨by first | rfl | (simp [*, Region.wanted, yielded]), ?hyc2⟩) (by assumption) ?restc2
                    case hyc2 => (intro w hSw; (try dsimp only at hSw); go_simp <;> with_reducible rfl)
                    try simp only [Act.put, List.setIfInBounds_toArray, List.set_cons_zero, List.set_cons_succ]
                    refine take_d (i := 4) (d := some 46) (v := ?_) rfl rfl (by kernel_rfl) (by kernel_rfl) (by kernel_rfl) (fun _ _ _ h => h) (Or.inl ⟨by first | rfl | (simp [*, Region.wanted, yielded]), ?hyc3⟩) (by assumption) ?restc3
                    case hyc3 => (intro w hSw; (try dsimp only at hSw); go_simp <;> with_reducible rfl)
                    try simp only [Act.put, List.setIfInBounds_toArray, List.set_cons_zero, List.set_cons_succ]
                    refine wpAnyH_ready (rs := [1, 5]) (by kernel_rfl) (by simp) ?_
                    refine AllReadyH.cons (o := _) rfl (fun K hK => ?_) (AllReadyH.cons (o := _) rfl (fun K hK => ?_) AllReadyH.nil)
                    · go_simp
                      go_wp2_with fail
                      refine hK.out _ _ (HKp.out _ (by repeat (first | exact hr | exact p3 | exact p6 | apply Below.drew | (refine Below.alloc ?_ (by first | exact Below.size (by assumption) | omega | (simp; done) | (simp; omega)) _)))) (fun hHeld => ?_)
                      clear hK K
                      try simp only [Act.put, List.setIfInBounds_toArray, List.set_cons_zero, List.set_cons_succ]
                      refine wpAnyH_ready (rs := [3, 5]) (by kernel_rfl) (by simp) ?_
                      refine AllReadyH.cons (o := _) rfl (fun K hK => ?_) (AllReadyH.cons (o := _) rfl (fun K hK => ?_) AllReadyH.nil)
                      · refine step_append_srcZ (by rfl) _ _ 23 (by rfl) wr.heap.size i0 Try.underlying23 hinf hz0 hz1 hz2 _ [] (by rfl) (zown_empty (by repeat (first | (with_reducible exact zblk_new _ _ _ (by first | rfl | (simp; done))) | (with_reducible refine zblk_alloc _ ?_) | (with_reducible refine zblk_drew ?_))) (by first | omega | (simp; done) | (simp; omega))) (some ⟨go, 0, none⟩) tl co T (by rfl) HTl.out (HSrc.out _ (by repeat (first | exact hr | exact p3 | exact p6 | apply Below.drew | (refine Below.alloc ?_ (by first | exact Below.size (by assumption) | omega | (simp; done) | (simp; omega)) _)))) (by simp; omega) (by first | omega | (simp; done) | (simp; omega)) ?_
                        intro v3 w3 hown3 hgrow3
                        have p3 : Below wr.heap.size wr w3 := Below.grown (by repeat (first | exact hr | exact p3 | exact p6 | apply Below.drew | (refine Below.alloc ?_ (by first | exact Below.size (by assumption) | omega | (simp; done) | (simp; omega)) _))) hgrow3 (by first | omega | (simp; done) | (simp; omega)) (zemp_ge (by first | omega | (simp; done) | (simp; omega)))
                        simp only [List.nil_append] at hown3
                        have z3 := p3.size
                        have y3 := hgrow3.size
                        refine hK.out _ _ (HKp.out _ p3) (fun hHeld => ?_)
                        clear hK K
                        try simp only [Act.put, List.setIfInBounds_toArray, List.set_cons_zero, List.set_cons_succ]
                        refine wpAnyH_ready (rs := [5]) (by kernel_rfl) (by simp) ?_
                        refine AllReadyH.cons (o := _) rfl (fun K hK => ?_) AllReadyH.nil
                        go_simp
                        go_wp2_with fail
                        refine hK.out _ _ (HKp.out _ (by repeat (first | exact hr | exact p3 | exact p6 | apply Below.drew | (refine Below.alloc ?_ (by first | exact Below.size (by assumption) | omega | (simp; done) | (simp; omega)) _)))) (fun hHeld => ?_)
                        clear hK K
                        try simp only [Act.put, List.setIfInBounds_toArray, List.set_cons_zero, List.set_cons_succ]
                        refine wpAnyH_ready (rs := [6]) (by kernel_rfl) (by simp) ?_
                        refine AllReadyH.cons (o := _) rfl (fun K hK => ?_) AllReadyH.nil
                        refine step_append_srcZ (by rfl) _ _ 23 (by rfl) wr.heap.size i0 Try.underlying23 hinf hz0 hz1 hz2 v3 T (by rfl) (by repeat (first | (with_reducible exact hown3) | (with_reducible refine zown_alloc ?_ _) | (with_reducible refine zown_drew ?_))) _ 1 _ [(s : Int)] (by rfl) (by rfl) (zsrc_one (by repeat (first | (with_reducible exact zblk_new _ _ _ (by first | rfl | (simp; done))) | (with_reducible refine zblk_alloc _ ?_) | (with_reducible refine zblk_drew ?_) | (with_reducible refine zblk_grown hgrow3 ?_ ?_) | (exact zemp_ne (by first | omega | (simp; done) | (simp; omega)))))) (by rw [HTl.out]; omega) (by first | omega | (simp; done) | (simp; omega)) ?_
                        intro v6 w6 hown6 hgrow6
                        have p6 : Below wr.heap.size wr w6 := Below.grown (by repeat (first | exact hr | exact p3 | exact p6 | apply Below.drew | (refine Below.alloc ?_ (by first | exact Below.size (by assumption) | omega | (simp; done) | (simp; omega)) _))) hgrow6 (by first | omega | (simp; done) | (simp; omega)) (zown_ge hown3)
                        refine hK.out _ _ (HKp.out _ p6) (fun hHeld => ?_)
                        clear hK K
                        try simp only [Act.put, List.setIfInBounds_toArray, List.set_cons_zero, List.set_cons_succ]
                        refine wpAnyH_ready (rs := [7]) (by kernel_rfl) (by simp) ?_
                        refine AllReadyH.cons (o := _) rfl (fun K hK => ?_) AllReadyH.nil
                        go_simp
                        obtain ⟨g9, c9, rfl, hg9⟩ := zown_some hown6 HTs.out (Nat.succ_pos tl)
                        refine (HIs.out _ _ c9 (own_intsR hown6 (by rw [HTs.out]; omega) HTb.out)).mono ?_
                        rintro e w7 ⟨hb7, rfl⟩
                        have p7 : Below wr.heap.size wr w7 := p6.trans (hb7.mono p6.size)
                        go_wp2_with fail
                        refine hK.out _ _ (HKp.out _ p7) (fun hHeld => ?_)
                        clear hK K
                        try simp only [Act.put, List.setIfInBounds_toArray, List.set_cons_zero, List.set_cons_succ]
                        refine take_d (i := 8) (d := some 50) (v := ?_) rfl rfl (by kernel_rfl) (by kernel_rfl) (by kernel_rfl) (fun _ _ _ h => h) (Or.inl ⟨by first | rfl | (simp [*, Region.wanted, yielded]), ?hyc4⟩) (by assumption) ?restc4
                        case hyc4 => (intro w hSw; (try dsimp only at hSw); go_simp <;> with_reducible rfl)
                        try simp only [Act.put, List.setIfInBounds_toArray, List.set_cons_zero, List.set_cons_succ]
                        refine take_d (i := 9) (d := some 51) (v := ?_) rfl rfl (by kernel_rfl) (by kernel_rfl) (by kernel_rfl) (fun _ _ _ h => h) (Or.inl ⟨by first | rfl | (simp [*, Region.wanted, yielded]), ?hyc5⟩) (by assumption) ?restc5
                        case hyc5 => (intro w hSw; (try dsimp only at hSw); go_simp <;> with_reducible rfl)
                        try simp only [Act.put, List.setIfInBounds_toArray, List.set_cons_zero, List.set_cons_succ]
                        refine take_d (i := 10) (d := some 52) (v := ?_) rfl rfl (by kernel_rfl) (by kernel_rfl) (by kernel_rfl) (fun _ _ _ h => h) (Or.inl ⟨by first | rfl | (simp [*, Region.wanted, yielded]), ?hyc6⟩) (by assumption) ?restc6
                        case hyc6 => (intro w hSw; (try dsimp only at hSw); go_simp <;> with_reducible rfl)
                        try simp only [Act.put, List.setIfInBounds_toArray, List.set_cons_zero, List.set_cons_succ]
                        refine take_d (i := 11) (d := some 53) (v := ?_) rfl rfl (by kernel_rfl) (by kernel_rfl) (by kernel_rfl) (fun _ _ _ h => h) (Or.inl ⟨by first | rfl | (simp [*, Region.wanted, yielded]), ?hyc7⟩) (by assumption) ?restc7
                        case hyc7 => (intro w hSw; (try dsimp only at hSw); go_simp <;> with_reducible rfl)
                        try simp only [Act.put, List.setIfInBounds_toArray, List.set_cons_zero, List.set_cons_succ]
                        refine take_d (i := 12) (d := some 54) (v := ?_) rfl rfl (by kernel_rfl) (by kernel_rfl) (by kernel_rfl) (fun _ _ _ h => h) (Or.inl ⟨by first | rfl | (simp [*, Region.wanted, yielded]), ?hyc8⟩) (by assumption) ?restc8
                        case hyc8 => (intro w hSw; (try dsimp only at hSw); go_simp <;> with_reducible rfl)
                        try simp only [Act.put, List.setIfInBounds_toArray, List.set_cons_zero, List.set_cons_succ]
                        refine take_d (i := 13) (d := some 55) (v := ?_) rfl rfl (by kernel_rfl) (by kernel_rfl) (by kernel_rfl) (fun _ _ _ h => h) (Or.inl ⟨by first | rfl | (simp [*, Region.wanted, yielded]), ?hyc9⟩) (by assumption) ?restc9
                        case hyc9 => (intro w hSw; (try dsimp only at hSw); go_simp <;> with_reducible rfl)
                        try simp only [Act.put, List.setIfInBounds_toArray, List.set_cons_zero, List.set_cons_succ]
                        refine take_d (i := 14) (d := some 56) (v := ?_) rfl rfl (by kernel_rfl) (by kernel_rfl) (by kernel_rfl) (fun _ _ _ h => h) (Or.inl ⟨by first | rfl | (simp [*, Region.wanted, yielded]), ?hyc10⟩) (by assumption) ?restc10
                        case hyc10 => (intro w hSw; (try dsimp only at hSw); go_simp <;> with_reducible rfl)
                        try simp only [Act.put, List.setIfInBounds_toArray, List.set_cons_zero, List.set_cons_succ]
                        refine take_d (i := 15) (d := some 57) (v := ?_) rfl rfl (by kernel_rfl) (by kernel_rfl) (by kernel_rfl) (fun _ _ _ h => h) (Or.inl ⟨by first | rfl | (simp [*, Region.wanted, yielded]), ?hyc11⟩) (by assumption) ?restc11
                        case hyc11 => (intro w hSw; (try dsimp only at hSw); go_simp <;> with_reducible rfl)
                        try simp only [Act.put, List.setIfInBounds_toArray, List.set_cons_zero, List.set_cons_succ]
                        refine take_d (i := 16) (d := some 58) (v := ?_) rfl rfl (by kernel_rfl) (by kernel_rfl) (by kernel_rfl) (fun _ _ _ h => h) (Or.inl ⟨by first | rfl | (simp [*, Region.wanted, yielded]), ?hyc12⟩) (by assumption) ?restc12
                        case hyc12 => (intro w hSw; (try dsimp only at hSw); go_simp <;> with_reducible rfl)
                        try simp only [Act.put, List.setIfInBounds_toArray, List.set_cons_zero, List.set_cons_succ]
                        refine take_d (i := 17) (d := some 59) (v := ?_) rfl rfl (by kernel_rfl) (by kernel_rfl) (by kernel_rfl) (fun _ _ _ h => h) (Or.inl ⟨by first | rfl | (simp [*, Region.wanted, yielded]), ?hyc13⟩) (by assumption) ?restc13
                        case hyc13 => (intro w hSw; (try dsimp only at hSw); go_simp <;> with_reducible rfl)
                        try simp only [Act.put, List.setIfInBounds_toArray, List.set_cons_zero, List.set_cons_succ]
                        refine take_d (i := 18) (d := some 60) (v := ?_) rfl rfl (by kernel_rfl) (by kernel_rfl) (by kernel_rfl) (fun _ _ _ h => h) (Or.inl ⟨by first | rfl | (simp [*, Region.wanted, yielded]), ?hyc14⟩) (by assumption) ?restc14
                        case hyc14 => (intro w hSw; (try dsimp only at hSw); go_simp <;> with_reducible rfl)
                        try simp only [Act.put, List.setIfInBounds_toArray, List.set_cons_zero, List.set_cons_succ]
                        refine take_d (i := 19) (d := some 61) (v := ?_) rfl rfl (by kernel_rfl) (by kernel_rfl) (by kernel_rfl) (fun _ _ _ h => h) (Or.inl ⟨by first | rfl | (simp [*, Region.wanted, yielded]), ?hyc15⟩) (by assumption) ?restc15
                        case hyc15 => (intro w hSw; (try dsimp only at hSw); go_simp <;> with_reducible rfl)
                        try simp only [Act.put, List.setIfInBounds_toArray, List.set_cons_zero, List.set_cons_succ]
                        refine take_d (i := 20) (d := some 62) (v := ?_) rfl rfl (by kernel_rfl) (by kernel_rfl) (by kernel_rfl) (fun _ _ _ h => h) (Or.inl ⟨by first | rfl | (simp [*, Region.wanted, yielded]), ?hyc16⟩) (by assumption) ?restc16
                        case hyc16 => (intro w hSw; (try dsimp only at hSw); go_simp <;> with_reducible rfl)
                        try simp only [Act.put, List.setIfInBounds_toArray, List.set_cons_zero, List.set_cons_succ]
                        refine take_d (i := 21) (d := some 63) (v := ?_) rfl rfl (by kernel_rfl) (by kernel_rfl) (by kernel_rfl) (fun _ _ _ h => h) (Or.inl ⟨by first | rfl | (simp [*, Region.wanted, yielded]), ?hyc17⟩) (by assumption) ?restc17
                        case hyc17 => (intro w hSw; (try dsimp only at hSw); go_simp <;> with_reducible rfl)
                        try simp only [Act.put, List.setIfInBounds_toArray, List.set_cons_zero, List.set_cons_succ]
                        refine take_d (i := 22) (d := some 64) (v := ?_) rfl rfl (by kernel_rfl) (by kernel_rfl) (by kernel_rfl) (fun _ _ _ h => h) (Or.inl ⟨by first | rfl | (simp [*, Region.wanted, yielded]), ?hyc18⟩) (by assumption) ?restc18
                        case hyc18 => (intro w hSw; (try dsimp only at hSw); go_simp <;> with_reducible rfl)
                        try simp only [Act.put, List.setIfInBounds_toArray, List.set_cons_zero, List.set_cons_succ]
                        refine take_d (i := 23) (d := some 65) (v := ?_) rfl rfl (by kernel_rfl) (by kernel_rfl) (by kernel_rfl) (fun _ _ _ h => h) (Or.inl ⟨by first | rfl | (simp [*, Region.wanted, yielded]), ?hyc19⟩) (by assumption) ?restc19
                        case hyc19 => (intro w hSw; (try dsimp only at hSw); go_simp <;> with_reducible rfl)
                        try simp only [Act.put, List.setIfInBounds_toArray, List.set_cons_zero, List.set_cons_succ]
                        refine take_d (i := 24) (d := some 66) (v := ?_) rfl rfl (by kernel_rfl) (by kernel_rfl) (by kernel_rfl) (fun _ _ _ h => h) (Or.inl ⟨by first | rfl | (simp [*, Region.wanted, yielded]), ?hyc20⟩) (by assumption) ?restc20
                        case hyc20 => (intro w hSw; (try dsimp only at hSw); go_simp <;> with_reducible rfl)
                        try simp only [Act.put, List.setIfInBounds_toArray, List.set_cons_zero, List.set_cons_succ]
                        refine take_d (i := 25) (d := some 67) (v := ?_) rfl rfl (by kernel_rfl) (by kernel_rfl) (by kernel_rfl) (fun _ _ _ h => h) (Or.inl ⟨by first | rfl | (simp [*, Region.wanted, yielded]), ?hyc21⟩) (by assumption) ?restc21
                        case hyc21 => (intro w hSw; (try dsimp only at hSw); go_simp <;> with_reducible rfl)
                        try simp only [Act.put, List.setIfInBounds_toArray, List.set_cons_zero, List.set_cons_succ]
                        refine take_d (i := 26) (d := some 68) (v := ?_) rfl rfl (by kernel_rfl) (by kernel_rfl) (by kernel_rfl) (fun _ _ _ h => h) (Or.inl ⟨by first | rfl | (simp [*, Region.wanted, yielded]), ?hyc22⟩) (by assumption) ?restc22
                        case hyc22 => (intro w hSw; (try dsimp only at hSw); go_simp <;> with_reducible rfl)
                        try simp only [Act.put, List.setIfInBounds_toArray, List.set_cons_zero, List.set_cons_succ]
                        refine take_d (i := 27) (d := some 69) (v := ?_) rfl rfl (by kernel_rfl) (by kernel_rfl) (by kernel_rfl) (fun _ _ _ h => h) (Or.inl ⟨by first | rfl | (simp [*, Region.wanted, yielded]), ?hyc23⟩) (by assumption) ?restc23
                        case hyc23 => (intro w hSw; (try dsimp only at hSw); go_simp <;> with_reducible rfl)
                        try simp only [Act.put, List.setIfInBounds_toArray, List.set_cons_zero, List.set_cons_succ]
                        refine take_d (i := 28) (d := some 70) (v := ?_) rfl rfl (by kernel_rfl) (by kernel_rfl) (by kernel_rfl) (fun _ _ _ h => h) (Or.inl ⟨by first | rfl | (simp [*, Region.wanted, yielded]), ?hyc24⟩) (by assumption) ?restc24
                        case hyc24 => (intro w hSw; (try dsimp only at hSw); go_simp <;> with_reducible rfl)
                        try simp only [Act.put, List.setIfInBounds_toArray, List.set_cons_zero, List.set_cons_succ]
                        refine take_d (i := 29) (d := some 71) (v := ?_) rfl rfl (by kernel_rfl) (by kernel_rfl) (by kernel_rfl) (fun _ _ _ h => h) (Or.inl ⟨by first | rfl | (simp [*, Region.wanted, yielded]), ?hyc25⟩) (by assumption) ?restc25
                        case hyc25 => (intro w hSw; (try dsimp only at hSw); go_simp <;> with_reducible rfl)
                        try simp only [Act.put, List.setIfInBounds_toArray, List.set_cons_zero, List.set_cons_succ]
                        refine wpAnyH_done (by kernel_rfl) ?_ _
                        go_simp
                        have P7 := hid p7
                        clear hown3 hgrow3 hown6 hgrow6 p3 p6 z3 y3 hb7 hg9
                        go_wp2_with fail
                        go_meet
                        case rel => exact ⟨_, rfl, hid (fun h => HTr.out (by first | exact h | trivial)), hid (fun h => HFa.out (by first | exact h | trivial)), P7⟩
                      · go_simp
                        go_wp2_with fail
                        refine hK.out _ _ (HKp.out _ (by repeat (first | exact hr | exact p3 | exact p6 | apply Below.drew | (refine Below.alloc ?_ (by first | exact Below.size (by assumption) | omega | (simp; done) | (simp; omega)) _)))) (fun hHeld => ?_)
                        clear hK K
                        try simp only [Act.put, List.setIfInBounds_toArray, List.set_cons_zero, List.set_cons_succ]
                        refine wpAnyH_ready (rs := [3]) (by kernel_rfl) (by simp) ?_
                        refine AllReadyH.cons (o := _) rfl (fun K hK => ?_) AllReadyH.nil
                        refine step_append_srcZ (by rfl) _ _ 23 (by rfl) wr.heap.size i0 Try.underlying23 hinf hz0 hz1 hz2 _ [] (by rfl) (zown_empty (by repeat (first | (with_reducible exact zblk_new _ _ _ (by first | rfl | (simp; done))) | (with_reducible refine zblk_alloc _ ?_) | (with_reducible refine zblk_drew ?_))) (by first | omega | (simp; done) | (simp; omega))) (some ⟨go, 0, none⟩) tl co T (by rfl) HTl.out (HSrc.out _ (by repeat (first | exact hr | exact p3 | exact p6 | apply Below.drew | (refine Below.alloc ?_ (by first | exact Below.size (by assumption) | omega | (simp; done) | (simp; omega)) _)))) (by simp; omega) (by first | omega | (simp; done) | (simp; omega)) ?_
                        intro v3 w3 hown3 hgrow3
                        have p3 : Below wr.heap.size wr w3 := Below.grown (by repeat (first | exact hr | exact p3 | exact p6 | apply Below.drew | (refine Below.alloc ?_ (by first | exact Below.size (by assumption) | omega | (simp; done) | (simp; omega)) _))) hgrow3 (by first | omega | (simp; done) | (simp; omega)) (zemp_ge (by first | omega | (simp; done) | (simp; omega)))
                        simp only [List.nil_append] at hown3
                        have z3 := p3.size
                        have y3 := hgrow3.size
                        refine hK.out _ _ (HKp.out _ p3) (fun hHeld => ?_)
                        clear hK K
                        try simp only [Act.put, List.setIfInBounds_toArray, List.set_cons_zero, List.set_cons_succ]
                        refine wpAnyH_ready (rs := [6]) (by kernel_rfl) (by simp) ?_
                        refine AllReadyH.cons (o := _) rfl (fun K hK => ?_) AllReadyH.nil
                        refine step_append_srcZ (by rfl) _ _ 23 (by rfl) wr.heap.size i0 Try.underlying23 hinf hz0 hz1 hz2 v3 T (by rfl) (by repeat (first | (with_reducible exact hown3) | (with_reducible refine zown_alloc ?_ _) | (with_reducible refine zown_drew ?_))) _ 1 _ [(s : Int)] (by rfl) (by rfl) (zsrc_one (by repeat (first | (with_reducible exact zblk_new _ _ _ (by first | rfl | (simp; done))) | (with_reducible refine zblk_alloc _ ?_) | (with_reducible refine zblk_drew ?_) | (with_reducible refine zblk_grown hgrow3 ?_ ?_) | (exact zemp_ne (by first | omega | (simp; done) | (simp; omega)))))) (by rw [HTl.out]; omega) (by first | omega | (simp; done) | (simp; omega)) ?_
                        intro v6 w6 hown6 hgrow6
                        have p6 : Below wr.heap.size wr w6 := Below.grown (by repeat (first | exact hr | exact p3 | exact p6 | apply Below.drew | (refine Below.alloc ?_ (by first | exact Below.size (by assumption) | omega | (simp; done) | (simp; omega)) _))) hgrow6 (by first | omega | (simp; done) | (simp; omega)) (zown_ge hown3)
                        refine hK.out _ _ (HKp.out _ p6) (fun hHeld => ?_)
                        clear hK K
                        try simp only [Act.put, List.setIfInBounds_toArray, List.set_cons_zero, List.set_cons_succ]
                        refine wpAnyH_ready (rs := [7]) (by kernel_rfl) (by simp) ?_
                        refine AllReadyH.cons (o := _) rfl (fun K hK => ?_) AllReadyH.nil
                        go_simp
                        obtain ⟨g9, c9, rfl, hg9⟩ := zown_some hown6 HTs.out (Nat.succ_pos tl)
                        refine (HIs.out _ _ c9 (own_intsR hown6 (by rw [HTs.out]; omega) HTb.out)).mono ?_
                        rintro e w7 ⟨hb7, rfl⟩
                        have p7 : Below wr.heap.size wr w7 := p6.trans (hb7.mono p6.size)
                        go_wp2_with fail
                        refine hK.out _ _ (HKp.out _ p7) (fun hHeld => ?_)
                        clear hK K
                        try simp only [Act.put, List.setIfInBounds_toArray, List.set_cons_zero, List.set_cons_succ]
                        refine take_d (i := 8) (d := some 50) (v := ?_) rfl rfl (by kernel_rfl) (by kernel_rfl) (by kernel_rfl) (fun _ _ _ h => h) (Or.inl ⟨by first | rfl | (simp [*, Region.wanted, yielded]), ?hyc26⟩) (by assumption) ?restc26
                        case hyc26 => (intro w hSw; (try dsimp only at hSw); go_simp <;> with_reducible rfl)
                        try simp only [Act.put, List.setIfInBounds_toArray, List.set_cons_zero, List.set_cons_succ]
                        refine take_d (i := 9) (d := some 51) (v := ?_) rfl rfl (by kernel_rfl) (by kernel_rfl) (by kernel_rfl) (fun _ _ _ h => h) (Or.inl ⟨by first | rfl | (simp [*, Region.wanted, yielded]), ?hyc27⟩) (by assumption) ?restc27
                        case hyc27 => (intro w hSw; (try dsimp only at hSw); go_simp <;> with_reducible rfl)
                        try simp only [Act.put, List.setIfInBounds_toArray, List.set_cons_zero, List.set_cons_succ]
                        refine take_d (i := 10) (d := some 52) (v := ?_) rfl rfl (by kernel_rfl) (by kernel_rfl) (by kernel_rfl) (fun _ _ _ h => h) (Or.inl ⟨by first | rfl | (simp [*, Region.wanted, yielded]), ?hyc28⟩) (by assumption) ?restc28
                        case hyc28 => (intro w hSw; (try dsimp only at hSw); go_simp <;> with_reducible rfl)
                        try simp only [Act.put, List.setIfInBounds_toArray, List.set_cons_zero, List.set_cons_succ]
                        refine take_d (i := 11) (d := some 53) (v := ?_) rfl rfl (by kernel_rfl) (by kernel_rfl) (by kernel_rfl) (fun _ _ _ h => h) (Or.inl ⟨by first | rfl | (simp [*, Region.wanted, yielded]), ?hyc29⟩) (by assumption) ?restc29
                        case hyc29 => (intro w hSw; (try dsimp only at hSw); go_simp <;> with_reducible rfl)
                        try simp only [Act.put, List.setIfInBounds_toArray, List.set_cons_zero, List.set_cons_succ]
                        refine take_d (i := 12) (d := some 54) (v := ?_) rfl rfl (by kernel_rfl) (by kernel_rfl) (by kernel_rfl) (fun _ _ _ h => h) (Or.inl ⟨by first | rfl | (simp [*, Region.wanted, yielded]), ?hyc30⟩) (by assumption) ?restc30
                        case hyc30 => (intro w hSw; (try dsimp only at hSw); go_simp <;> with_reducible rfl)
                        try simp only [Act.put, List.setIfInBounds_toArray, List.set_cons_zero, List.set_cons_succ]
                        refine take_d (i := 13) (d := some 55) (v := ?_) rfl rfl (by kernel_rfl) (by kernel_rfl) (by kernel_rfl) (fun _ _ _ h => h) (Or.inl ⟨by first | rfl | (simp [*, Region.wanted, yielded]), ?hyc31⟩) (by assumption) ?restc31
                        case hyc31 => (intro w hSw; (try dsimp only at hSw); go_simp <;> with_reducible rfl)
                        try simp only [Act.put, List.setIfInBounds_toArray, List.set_cons_zero, List.set_cons_succ]
                        refine take_d (i := 14) (d := some 56) (v := ?_) rfl rfl (by kernel_rfl) (by kernel_rfl) (by kernel_rfl) (fun _ _ _ h => h) (Or.inl ⟨by first | rfl | (simp [*, Region.wanted, yielded]), ?hyc32⟩) (by assumption) ?restc32
                        case hyc32 => (intro w hSw; (try dsimp only at hSw); go_simp <;> with_reducible rfl)
                        try simp only [Act.put, List.setIfInBounds_toArray, List.set_cons_zero, List.set_cons_succ]
                        refine take_d (i := 15) (d := some 57) (v := ?_) rfl rfl (by kernel_rfl) (by kernel_rfl) (by kernel_rfl) (fun _ _ _ h => h) (Or.inl ⟨by first | rfl | (simp [*, Region.wanted, yielded]), ?hyc33⟩) (by assumption) ?restc33
                        case hyc33 => (intro w hSw; (try dsimp only at hSw); go_simp <;> with_reducible rfl)
                        try simp only [Act.put, List.setIfInBounds_toArray, List.set_cons_zero, List.set_cons_succ]
                        refine take_d (i := 16) (d := some 58) (v := ?_) rfl rfl (by kernel_rfl) (by kernel_rfl) (by kernel_rfl) (fun _ _ _ h => h) (Or.inl ⟨by first | rfl | (simp [*, Region.wanted, yielded]), ?hyc34⟩) (by assumption) ?restc34
                        case hyc34 => (intro w hSw; (try dsimp only at hSw); go_simp <;> with_reducible rfl)
                        try simp only [Act.put, List.setIfInBounds_toArray, List.set_cons_zero, List.set_cons_succ]
                        refine take_d (i := 17) (d := some 59) (v := ?_) rfl rfl (by kernel_rfl) (by kernel_rfl) (by kernel_rfl) (fun _ _ _ h => h) (Or.inl ⟨by first | rfl | (simp [*, Region.wanted, yielded]), ?hyc35⟩) (by assumption) ?restc35
                        case hyc35 => (intro w hSw; (try dsimp only at hSw); go_simp <;> with_reducible rfl)
                        try simp only [Act.put, List.setIfInBounds_toArray, List.set_cons_zero, List.set_cons_succ]
                        refine take_d (i := 18) (d := some 60) (v := ?_) rfl rfl (by kernel_rfl) (by kernel_rfl) (by kernel_rfl) (fun _ _ _ h => h) (Or.inl ⟨by first | rfl | (simp [*, Region.wanted, yielded]), ?hyc36⟩) (by assumption) ?restc36
                        case hyc36 => (intro w hSw; (try dsimp only at hSw); go_simp <;> with_reducible rfl)
                        try simp only [Act.put, List.setIfInBounds_toArray, List.set_cons_zero, List.set_cons_succ]
                        refine take_d (i := 19) (d := some 61) (v := ?_) rfl rfl (by kernel_rfl) (by kernel_rfl) (by kernel_rfl) (fun _ _ _ h => h) (Or.inl ⟨by first | rfl | (simp [*, Region.wanted, yielded]), ?hyc37⟩) (by assumption) ?restc37
                        case hyc37 => (intro w hSw; (try dsimp only at hSw); go_simp <;> with_reducible rfl)
                        try simp only [Act.put, List.setIfInBounds_toArray, List.set_cons_zero, List.set_cons_succ]
                        refine take_d (i := 20) (d := some 62) (v := ?_) rfl rfl (by kernel_rfl) (by kernel_rfl) (by kernel_rfl) (fun _ _ _ h => h) (Or.inl ⟨by first | rfl | (simp [*, Region.wanted, yielded]), ?hyc38⟩) (by assumption) ?restc38
                        case hyc38 => (intro w hSw; (try dsimp only at hSw); go_simp <;> with_reducible rfl)
                        try simp only [Act.put, List.setIfInBounds_toArray, List.set_cons_zero, List.set_cons_succ]
                        refine take_d (i := 21) (d := some 63) (v := ?_) rfl rfl (by kernel_rfl) (by kernel_rfl) (by kernel_rfl) (fun _ _ _ h => h) (Or.inl ⟨by first | rfl | (simp [*, Region.wanted, yielded]), ?hyc39⟩) (by assumption) ?restc39
                        case hyc39 => (intro w hSw; (try dsimp only at hSw); go_simp <;> with_reducible rfl)
                        try simp only [Act.put, List.setIfInBounds_toArray, List.set_cons_zero, List.set_cons_succ]
                        refine take_d (i := 22) (d := some 64) (v := ?_) rfl rfl (by kernel_rfl) (by kernel_rfl) (by kernel_rfl) (fun _ _ _ h => h) (Or.inl ⟨by first | rfl | (simp [*, Region.wanted, yielded]), ?hyc40⟩) (by assumption) ?restc40
                        case hyc40 => (intro w hSw; (try dsimp only at hSw); go_simp <;> with_reducible rfl)
                        try simp only [Act.put, List.setIfInBounds_toArray, List.set_cons_zero, List.set_cons_succ]
                        refine take_d (i := 23) (d := some 65) (v := ?_) rfl rfl (by kernel_rfl) (by kernel_rfl) (by kernel_rfl) (fun _ _ _ h => h) (Or.inl ⟨by first | rfl | (simp [*, Region.wanted, yielded]), ?hyc41⟩) (by assumption) ?restc41
                        case hyc41 => (intro w hSw; (try dsimp only at hSw); go_simp <;> with_reducible rfl)
                        try simp only [Act.put, List.setIfInBounds_toArray, List.set_cons_zero, List.set_cons_succ]
                        refine take_d (i := 24) (d := some 66) (v := ?_) rfl rfl (by kernel_rfl) (by kernel_rfl) (by kernel_rfl) (fun _ _ _ h => h) (Or.inl ⟨by first | rfl | (simp [*, Region.wanted, yielded]), ?hyc42⟩) (by assumption) ?restc42
                        case hyc42 => (intro w hSw; (try dsimp only at hSw); go_simp <;> with_reducible rfl)
                        try simp only [Act.put, List.setIfInBounds_toArray, List.set_cons_zero, List.set_cons_succ]
                        refine take_d (i := 25) (d := some 67) (v := ?_) rfl rfl (by kernel_rfl) (by kernel_rfl) (by kernel_rfl) (fun _ _ _ h => h) (Or.inl ⟨by first | rfl | (simp [*, Region.wanted, yielded]), ?hyc43⟩) (by assumption) ?restc43
                        case hyc43 => (intro w hSw; (try dsimp only at hSw); go_simp <;> with_reducible rfl)
                        try simp only [Act.put, List.setIfInBounds_toArray, List.set_cons_zero, List.set_cons_succ]
                        refine take_d (i := 26) (d := some 68) (v := ?_) rfl rfl (by kernel_rfl) (by kernel_rfl) (by kernel_rfl) (fun _ _ _ h => h) (Or.inl ⟨by first | rfl | (simp [*, Region.wanted, yielded]), ?hyc44⟩) (by assumption) ?restc44
                        case hyc44 => (intro w hSw; (try dsimp only at hSw); go_simp <;> with_reducible rfl)
                        try simp only [Act.put, List.setIfInBounds_toArray, List.set_cons_zero, List.set_cons_succ]
                        refine take_d (i := 27) (d := some 69) (v := ?_) rfl rfl (by kernel_rfl) (by kernel_rfl) (by kernel_rfl) (fun _ _ _ h => h) (Or.inl ⟨by first | rfl | (simp [*, Region.wanted, yielded]), ?hyc45⟩) (by assumption) ?restc45
                        case hyc45 => (intro w hSw; (try dsimp only at hSw); go_simp <;> with_reducible rfl)
                        try simp only [Act.put, List.setIfInBounds_toArray, List.set_cons_zero, List.set_cons_succ]
                        refine take_d (i := 28) (d := some 70) (v := ?_) rfl rfl (by kernel_rfl) (by kernel_rfl) (by kernel_rfl) (fun _ _ _ h => h) (Or.inl ⟨by first | rfl | (simp [*, Region.wanted, yielded]), ?hyc46⟩) (by assumption) ?restc46
                        case hyc46 => (intro w hSw; (try dsimp only at hSw); go_simp <;> with_reducible rfl)
                        try simp only [Act.put, List.setIfInBounds_toArray, List.set_cons_zero, List.set_cons_succ]
                        refine take_d (i := 29) (d := some 71) (v := ?_) rfl rfl (by kernel_rfl) (by kernel_rfl) (by kernel_rfl) (fun _ _ _ h => h) (Or.inl ⟨by first | rfl | (simp [*, Region.wanted, yielded]), ?hyc47⟩) (by assumption) ?restc47
                        case hyc47 => (intro w hSw; (try dsimp only at hSw); go_simp <;> with_reducible rfl)
                        try simp only [Act.put, List.setIfInBounds_toArray, List.set_cons_zero, List.set_cons_succ]
                        refine wpAnyH_done (by kernel_rfl) ?_ _
                        go_simp
                        have P7 := hid p7
                        clear hown3 hgrow3 hown6 hgrow6 p3 p6 z3 y3 hb7 hg9
                        go_wp2_with fail
                        go_meet
                        case rel => exact ⟨_, rfl, hid (fun h => HTr.out (by first | exact h | trivial)), hid (fun h => HFa.out (by first | exact h | trivial)), P7⟩
                    · go_simp
                      go_wp2_with fail
                      refine hK.out _ _ (HKp.out _ (by repeat (first | exact hr | exact p3 | exact p6 | apply Below.drew | (refine Below.alloc ?_ (by first | exact Below.size (by assumption) | omega | (simp; done) | (simp; omega)) _)))) (fun hHeld => ?_)
                      clear hK K
                      try simp only [Act.put, List.setIfInBounds_toArray, List.set_cons_zero, List.set_cons_succ]
                      refine wpAnyH_ready (rs := [1]) (by kernel_rfl) (by simp) ?_
                      refine AllReadyH.cons (o := _) rfl (fun K hK => ?_) AllReadyH.nil
                      go_simp
                      go_wp2_with fail
                      refine hK.out _ _ (HKp.out _ (by repeat (first | exact hr | exact p3 | exact p6 | apply Below.drew | (refine Below.alloc ?_ (by first | exact Below.size (by assumption) | omega | (simp; done) | (simp; omega)) _)))) (fun hHeld => ?_)
                      clear hK K
                      try simp only [Act.put, List.setIfInBounds_toArray, List.set_cons_zero, List.set_cons_succ]
                      refine wpAnyH_ready (rs := [3]) (by kernel_rfl) (by simp) ?_
                      refine AllReadyH.cons (o := _) rfl (fun K hK => ?_) AllReadyH.nil
                      refine step_append_srcZ (by rfl) _ _ 23 (by rfl) wr.heap.size i0 Try.underlying23 hinf hz0 hz1 hz2 _ [] (by rfl) (zown_empty (by repeat (first | (with_reducible exact zblk_new _ _ _ (by first | rfl | (simp; done))) | (with_reducible refine zblk_alloc _ ?_) | (with_reducible refine zblk_drew ?_))) (by first | omega | (simp; done) | (simp; omega))) (some ⟨go, 0, none⟩) tl co T (by rfl) HTl.out (HSrc.out _ (by repeat (first | exact hr | exact p3 | exact p6 | apply Below.drew | (refine Below.alloc ?_ (by first | exact Below.size (by assumption) | omega | (simp; done) | (simp; omega)) _)))) (by simp; omega) (by first | omega | (simp; done) | (simp; omega)) ?_
                      intro v3 w3 hown3 hgrow3
                      have p3 : Below wr.heap.size wr w3 := Below.grown (by repeat (first | exact hr | exact p3 | exact p6 | apply Below.drew | (refine Below.alloc ?_ (by first | exact Below.size (by assumption) | omega | (simp; done) | (simp; omega)) _))) hgrow3 (by first | omega | (simp; done) | (simp; omega)) (zemp_ge (by first | omega | (simp; done) | (simp; omega)))
                      simp only [List.nil_append] at hown3
                      have z3 := p3.size
                      have y3 := hgrow3.size
                      refine hK.out _ _ (HKp.out _ p3) (fun hHeld => ?_)
                      clear hK K
                      try simp only [Act.put, List.setIfInBounds_toArray, List.set_cons_zero, List.set_cons_succ]
                      refine wpAnyH_ready (rs := [6]) (by kernel_rfl) (by simp) ?_
                      refine AllReadyH.cons (o := _) rfl (fun K hK => ?_) AllReadyH.nil
                      refine step_append_srcZ (by rfl) _ _ 23 (by rfl) wr.heap.size i0 Try.underlying23 hinf hz0 hz1 hz2 v3 T (by rfl) (by repeat (first | (with_reducible exact hown3) | (with_reducible refine zown_alloc ?_ _) | (with_reducible refine zown_drew ?_))) _ 1 _ [(s : Int)] (by rfl) (by rfl) (zsrc_one (by repeat (first | (with_reducible exact zblk_new _ _ _ (by first | rfl | (simp; done))) | (with_reducible refine zblk_alloc _ ?_) | (with_reducible refine zblk_drew ?_) | (with_reducible refine zblk_grown hgrow3 ?_ ?_) | (exact zemp_ne (by first | omega | (simp; done) | (simp; omega)))))) (by rw [HTl.out]; omega) (by first | omega | (simp; done) | (simp; omega)) ?_
                      intro v6 w6 hown6 hgrow6
                      have p6 : Below wr.heap.size wr w6 := Below.grown (by repeat (first | exact hr | exact p3 | exact p6 | apply Below.drew | (refine Below.alloc ?_ (by first | exact Below.size (by assumption) | omega | (simp; done) | (simp; omega)) _))) hgrow6 (by first | omega | (simp; done) | (simp; omega)) (zown_ge hown3)
                      refine hK.out _ _ (HKp.out _ p6) (fun hHeld => ?_)
                      clear hK K
                      try simp only [Act.put, List.setIfInBounds_toArray, List.set_cons_zero, List.set_cons_succ]
                      refine wpAnyH_ready (rs := [7]) (by kernel_rfl) (by simp) ?_
                      refine AllReadyH.cons (o := _) rfl (fun K hK => ?_) AllReadyH.nil
                      go_simp
                      obtain ⟨g9, c9, rfl, hg9⟩ := zown_some hown6 HTs.out (Nat.succ_pos tl)
                      refine (HIs.out _ _ c9 (own_intsR hown6 (by rw [HTs.out]; omega) HTb.out)).mono ?_
                      rintro e w7 ⟨hb7, rfl⟩
                      have p7 : Below wr.heap.size wr w7 := p6.trans (hb7.mono p6.size)
                      go_wp2_with fail
                      refine hK.out _ _ (HKp.out _ p7) (fun hHeld => ?_)
                      clear hK K
                      try simp only [Act.put, List.setIfInBounds_toArray, List.set_cons_zero, List.set_cons_succ]
                      refine take_d (i := 8) (d := some 50) (v := ?_) rfl rfl (by kernel_rfl) (by kernel_rfl) (by kernel_rfl) (fun _ _ _ h => h) (Or.inl ⟨by first | rfl | (simp [*, Region.wanted, yielded]), ?hyc48⟩) (by assumption) ?restc48
                      case hyc48 => (intro w hSw; (try dsimp only at hSw); go_simp <;> with_reducible rfl)
                      try simp only [Act.put, List.setIfInBounds_toArray, List.set_cons_zero, List.set_cons_succ]
                      refine take_d (i := 9) (d := some 51) (v := ?_) rfl rfl (by kernel_rfl) (by kernel_rfl) (by kernel_rfl) (fun _ _ _ h => h) (Or.inl ⟨by first | rfl | (simp [*, Region.wanted, yielded]), ?hyc49⟩) (by assumption) ?restc49
                      case hyc49 => (intro w hSw; (try dsimp only at hSw); go_simp <;> with_reducible rfl)
                      try simp only [Act.put, List.setIfInBounds_toArray, List.set_cons_zero, List.set_cons_succ]
                      refine take_d (i := 10) (d := some 52) (v := ?_) rfl rfl (by kernel_rfl) (by kernel_rfl) (by kernel_rfl) (fun _ _ _ h => h) (Or.inl ⟨by first | rfl | (simp [*, Region.wanted, yielded]), ?hyc50⟩) (by assumption) ?restc50
                      case hyc50 => (intro w hSw; (try dsimp only at hSw); go_simp <;> with_reducible rfl)
                      try simp only [Act.put, List.setIfInBounds_toArray, List.set_cons_zero, List.set_cons_succ]
                      refine take_d (i := 11) (d := some 53) (v := ?_) rfl rfl (by kernel_rfl) (by kernel_rfl) (by kernel_rfl) (fun _ _ _ h => h) (Or.inl ⟨by first | rfl | (simp [*, Region.wanted, yielded]), ?hyc51⟩) (by assumption) ?restc51
                      case hyc51 => (intro w hSw; (try dsimp only at hSw); go_simp <;> with_reducible rfl)
                      try simp only [Act.put, List.setIfInBounds_toArray, List.set_cons_zero, List.set_cons_succ]
                      refine take_d (i := 12) (d := some 54) (v := ?_) rfl rfl (by kernel_rfl) (by kernel_rfl) (by kernel_rfl) (fun _ _ _ h => h) (Or.inl ⟨by first | rfl | (simp [*, Region.wanted, yielded]), ?hyc52⟩) (by assumption) ?restc52
                      case hyc52 => (intro w hSw; (try dsimp only at hSw); go_simp <;> with_reducible rfl)
                      try simp only [Act.put, List.setIfInBounds_toArray, List.set_cons_zero, List.set_cons_succ]
                      refine take_d (i := 13) (d := some 55) (v := ?_) rfl rfl (by kernel_rfl) (by kernel_rfl) (by kernel_rfl) (fun _ _ _ h => h) (Or.inl ⟨by first | rfl | (simp [*, Region.wanted, yielded]), ?hyc53⟩) (by assumption) ?restc53
                      case hyc53 => (intro w hSw; (try dsimp only at hSw); go_simp <;> with_reducible rfl)
                      try simp only [Act.put, List.setIfInBounds_toArray, List.set_cons_zero, List.set_cons_succ]
                      refine take_d (i := 14) (d := some 56) (v := ?_) rfl rfl (by kernel_rfl) (by kernel_rfl) (by kernel_rfl) (fun _ _ _ h => h) (Or.inl ⟨by first | rfl | (simp [*, Region.wanted, yielded]), ?hyc54⟩) (by assumption) ?restc54
                      case hyc54 => (intro w hSw; (try dsimp only at hSw); go_simp <;> with_reducible rfl)
                      try simp only [Act.put, List.setIfInBounds_toArray, List.set_cons_zero, List.set_cons_succ]
                      refine take_d (i := 15) (d := some 57) (v := ?_) rfl rfl (by kernel_rfl) (by kernel_rfl) (by kernel_rfl) (fun _ _ _ h => h) (Or.inl ⟨by first | rfl | (simp [*, Region.wanted, yielded]), ?hyc55⟩) (by assumption) ?restc55
                      case hyc55 => (intro w hSw; (try dsimp only at hSw); go_simp <;> with_reducible rfl)
                      try simp only [Act.put, List.setIfInBounds_toArray, List.set_cons_zero, List.set_cons_succ]
                      refine take_d (i := 16) (d := some 58) (v := ?_) rfl rfl (by kernel_rfl) (by kernel_rfl) (by kernel_rfl) (fun _ _ _ h => h) (Or.inl ⟨by first | rfl | (simp [*, Region.wanted, yielded]), ?hyc56⟩) (by assumption) ?restc56
                      case hyc56 => (intro w hSw; (try dsimp only at hSw); go_simp <;> with_reducible rfl)
                      try simp only [Act.put, List.setIfInBounds_toArray, List.set_cons_zero, List.set_cons_succ]
                      refine take_d (i := 17) (d := some 59) (v := ?_) rfl rfl (by kernel_rfl) (by kernel_rfl) (by kernel_rfl) (fun _ _ _ h => h) (Or.inl ⟨by first | rfl | (simp [*, Region.wanted, yielded]), ?hyc57⟩) (by assumption) ?restc57
                      case hyc57 => (intro w hSw; (try dsimp only at hSw); go_simp <;> with_reducible rfl)
                      try simp only [Act.put, List.setIfInBounds_toArray, List.set_cons_zero, List.set_cons_succ]
                      refine take_d (i := 18) (d := some 60) (v := ?_) rfl rfl (by kernel_rfl) (by kernel_rfl) (by kernel_rfl) (fun _ _ _ h => h) (Or.inl ⟨by first | rfl | (simp [*, Region.wanted, yielded]), ?hyc58⟩) (by assumption) ?restc58
                      case hyc58 => (intro w hSw; (try dsimp only at hSw); go_simp <;> with_reducible rfl)
                      try simp only [Act.put, List.setIfInBounds_toArray, List.set_cons_zero, List.set_cons_succ]
                      refine take_d (i := 19) (d := some 61) (v := ?_) rfl rfl (by kernel_rfl) (by kernel_rfl) (by kernel_rfl) (fun _ _ _ h => h) (Or.inl ⟨by first | rfl | (simp [*, Region.wanted, yielded]), ?hyc59⟩) (by assumption) ?restc59
                      case hyc59 => (intro w hSw; (try dsimp only at hSw); go_simp <;> with_reducible rfl)
                      try simp only [Act.put, List.setIfInBounds_toArray, List.set_cons_zero, List.set_cons_succ]
                      refine take_d (i := 20) (d := some 62) (v := ?_) rfl rfl (by kernel_rfl) (by kernel_rfl) (by kernel_rfl) (fun _ _ _ h => h) (Or.inl ⟨by first | rfl | (simp [*, Region.wanted, yielded]), ?hyc60⟩) (by assumption) ?restc60
                      case hyc60 => (intro w hSw; (try dsimp only at hSw); go_simp <;> with_reducible rfl)
                      try simp only [Act.put, List.setIfInBounds_toArray, List.set_cons_zero, List.set_cons_succ]
                      refine take_d (i := 21) (d := some 63) (v := ?_) rfl rfl (by kernel_rfl) (by kernel_rfl) (by kernel_rfl) (fun _ _ _ h => h) (Or.inl ⟨by first | rfl | (simp [*, Region.wanted, yielded]), ?hyc61⟩) (by assumption) ?restc61
                      case hyc61 => (intro w hSw; (try dsimp only at hSw); go_simp <;> with_reducible rfl)
                      try simp only [Act.put, List.setIfInBounds_toArray, List.set_cons_zero, List.set_cons_succ]
                      refine take_d (i := 22) (d := some 64) (v := ?_) rfl rfl (by kernel_rfl) (by kernel_rfl) (by kernel_rfl) (fun _ _ _ h => h) (Or.inl ⟨by first | rfl | (simp [*, Region.wanted, yielded]), ?hyc62⟩) (by assumption) ?restc62
                      case hyc62 => (intro w hSw; (try dsimp only at hSw); go_simp <;> with_reducible rfl)
                      try simp only [Act.put, List.setIfInBounds_toArray, List.set_cons_zero, List.set_cons_succ]
                      refine take_d (i := 23) (d := some 65) (v := ?_) rfl rfl (by kernel_rfl) (by kernel_rfl) (by kernel_rfl) (fun _ _ _ h => h) (Or.inl ⟨by first | rfl | (simp [*, Region.wanted, yielded]), ?hyc63⟩) (by assumption) ?restc63
                      case hyc63 => (intro w hSw; (try dsimp only at hSw); go_simp <;> with_reducible rfl)
                      try simp only [Act.put, List.setIfInBounds_toArray, List.set_cons_zero, List.set_cons_succ]
                      refine take_d (i := 24) (d := some 66) (v := ?_) rfl rfl (by kernel_rfl) (by kernel_rfl) (by kernel_rfl) (fun _ _ _ h => h) (Or.inl ⟨by first | rfl | (simp [*, Region.wanted, yielded]), ?hyc64⟩) (by assumption) ?restc64
                      case hyc64 => (intro w hSw; (try dsimp only at hSw); go_simp <;> with_reducible rfl)
                      try simp only [Act.put, List.setIfInBounds_toArray, List.set_cons_zero, List.set_cons_succ]
                      refine take_d (i := 25) (d := some 67) (v := ?_) rfl rfl (by kernel_rfl) (by kernel_rfl) (by kernel_rfl) (fun _ _ _ h => h) (Or.inl ⟨by first | rfl | (simp [*, Region.wanted, yielded]), ?hyc65⟩) (by assumption) ?restc65
                      case hyc65 => (intro w hSw; (try dsimp only at hSw); go_simp <;> with_reducible rfl)
                      try simp only [Act.put, List.setIfInBounds_toArray, List.set_cons_zero, List.set_cons_succ]
                      refine take_d (i := 26) (d := some 68) (v := ?_) rfl rfl (by kernel_rfl) (by kernel_rfl) (by kernel_rfl) (fun _ _ _ h => h) (Or.inl ⟨by first | rfl | (simp [*, Region.wanted, yielded]), ?hyc66⟩) (by assumption) ?restc66
                      case hyc66 => (intro w hSw; (try dsimp only at hSw); go_simp <;> with_reducible rfl)
                      try simp only [Act.put, List.setIfInBounds_toArray, List.set_cons_zero, List.set_cons_succ]
                      refine take_d (i := 27) (d := some 69) (v := ?_) rfl rfl (by kernel_rfl) (by kernel_rfl) (by kernel_rfl) (fun _ _ _ h => h) (Or.inl ⟨by first | rfl | (simp [*, Region.wanted, yielded]), ?hyc67⟩) (by assumption) ?restc67
                      case hyc67 => (intro w hSw; (try dsimp only at hSw); go_simp <;> with_reducible rfl)
                      try simp only [Act.put, List.setIfInBounds_toArray, List.set_cons_zero, List.set_cons_succ]
                      refine take_d (i := 28) (d := some 70) (v := ?_) rfl rfl (by kernel_rfl) (by kernel_rfl) (by kernel_rfl) (fun _ _ _ h => h) (Or.inl ⟨by first | rfl | (simp [*, Region.wanted, yielded]), ?hyc68⟩) (by assumption) ?restc68
                      case hyc68 => (intro w hSw; (try dsimp only at hSw); go_simp <;> with_reducible rfl)
                      try simp only [Act.put, List.setIfInBounds_toArray, List.set_cons_zero, List.set_cons_succ]
                      refine take_d (i := 29) (d := some 71) (v := ?_) rfl rfl (by kernel_rfl) (by kernel_rfl) (by kernel_rfl) (fun _ _ _ h => h) (Or.inl ⟨by first | rfl | (simp [*, Region.wanted, yielded]), ?hyc69⟩) (by assumption) ?restc69
                      case hyc69 => (intro w hSw; (try dsimp only at hSw); go_simp <;> with_reducible rfl)
                      try simp only [Act.put, List.setIfInBounds_toArray, List.set_cons_zero, List.set_cons_succ]
                      refine wpAnyH_done (by kernel_rfl) ?_ _
                      go_simp
                      have P7 := hid p7
                      clear hown3 hgrow3 hown6 hgrow6 p3 p6 z3 y3 hb7 hg9
                      go_wp2_with fail
                      go_meet
                      case rel => exact ⟨_, rfl, hid (fun h => HTr.out (by first | exact h | trivial)), hid (fun h => HFa.out (by first | exact h | trivial)), P7⟩

              case rest =>
                obtain ⟨cc, rfl, HTr, HFa, HP⟩ := hcut
                have HX9 := hid (HX.out.trans (HP.out.mono HX.out.size))
                have HTL9 := hid htl9
                clear htl9
                cases cc with
                | true =>
                  have HN9 := hid (HTr.out rfl)
                  as_aux_lemma =>
                    go_wp2_with fail
                    go_roundw
                    case rel => exact ⟨(s : Int), s + 1, by omega, by omega, rfl, by go_num, HN9, HX9⟩
                    case measure => simp [intOf]; omega
                | false =>
                  have HN9 := hid (HFa.out rfl)
                  as_aux_lemma =>
                    go_wp2_with fail
                    go_roundw
                    case rel => exact ⟨best, s + 1, by omega, by omega, rfl, by go_num, HN9, HX9⟩
                    case measure => simp [intOf]; omega
            · obtain rfl : s = t.length := by omega
              have HNr := hid (HBe.out.end_ (by rw [HTl.out]; exact hlt) hpos)
              have HB4 := hid (HB3.out.trans (HX.out.mono HB3.out.size))
              have HO4 := hid (HO3.out.below HX.out)
              have ho5 := HO4.out
              unfold Own at ho5
              rw [HTl.out] at ho5
              have HO5 := hid ho5
              have hws := HB4.out.size
              have hxe : ((best : Int) : Int) = best := rfl
              clear ho5 hxe
              go_wp2_with (at_builtin; refine wpList_append_lies _ rfl _ _ 23 rfl w.heap.size 3 i0 (.int .i64 0) 1 8 Try.underlying23 hinf hz0 hz1 hz2 rfl (by decide) _ (k + 1) (T.map (Value.int .i64)) rfl (HO5.out.alloc _) ⟨wr.heap.size, 0, none⟩ 1 1 [.int .i64 best] rfl rfl (cell_one_new _ _ _) (by simp [Value.oneCell']) (by decide) (by unfold maxLen; omega) (by omega) (by simp; omega) (wr.heap.size + 1) (by simp) ?_)
              intro g9 c9 w6 hown6 hgrow6 hat hlt9
              have HB6 := hid ((HB4.out.alloc HB4.out.size (.cells #[.int .i64 best] 3)).grown hgrow6 (by simp; omega) (fun q hq => by have := (World.ownsRow.lt HO5.out q hq).1; omega))
              have HTn := hid (show (T ++ [best]).length = k + 1 + 1 by rw [List.length_append, HTl.out]; rfl)
              have HO6 := hid (show Own w6 w.heap.size (.slice (some ⟨g9, 0, none⟩) (T ++ [best]).length c9) (T ++ [best]) by
                rw [HTn.out]
                unfold Own
                rw [HTn.out, List.map_append]
                simpa using hown6)
              have HR6 := hid (HRn.out.push HNr.out)
              have HL6 := hid (show (T ++ [best]).length ≤ t.length - 1 by rw [HTn.out]; omega)
              clear hown6 hgrow6 hat hlt9 HO5 HO4
              as_aux_lemma =>
                go_wp2
                go_roundw
                case rel => exact ⟨T ++ [best], g9, c9, by rw [HTn.out], HO6, HR6, HL6, HB6⟩
                case measure => simp; omega
        · obtain rfl : tl = t.length - 1 := by omega
          have HI := hid (own_intsR HOw.out (by rw [HTl.out]; omega) (fun z hz => by have := HRn.out.ok z hz; omega))
          have hd9 : ¬ ((t.length - 1 : Nat) : Int) < (t.length : Int) - 1 := by omega
          clear hle htl hlt
          as_aux_lemma =>
            go_wp2
            go_ret2
            exact ⟨HB.out, .inr ⟨HE.out, T, _, co, HRn.out, HTl.out, HI.out, by rw [HTl.out]; rfl⟩⟩
  · have HE := hid (show rndE t x = vaV t from if_neg hv)
    obtain ⟨e0, he0⟩ : ∃ e0, vaV t = e0 := ⟨_, rfl⟩
    rw [he0] at HV hv HE
    have HQ := hid hv
    have hne : (e0 == 0) = false := by simp; exact hv
    have hnn : (e0 != 0) = true := by simp; exact hv
    clear h he0
    as_aux_lemma =>
      go_enter Try.func28, Try.ntmps28
      go_wp2_with fail
      refine HV.out.mono ?_
      rintro e w1 ⟨hb1, rfl⟩
      have HB1 := hid hb1
      clear hb1
      go_wp2
      go_ret2
      exact ⟨HB1.out, .inl ⟨by rw [HE.out]; exact HQ.out, by rw [HE.out]; rfl⟩⟩
end Go.Proofs.Ytbffdpcogfmomaa
