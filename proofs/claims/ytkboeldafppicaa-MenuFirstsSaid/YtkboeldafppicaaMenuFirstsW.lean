/- The walk of the law MenuFirsts. -/
import Derived.Test.YtkboeldafppicaaKn3
import Derived.Test.YtkboeldafppicaaMFst
import Derived.Test.YtkboeldafppicaaREqual
import Derived.Test.YtkboeldafppicaaMLg
set_option linter.unusedVariables false
set_option linter.unusedSimpArgs false
namespace Go.Proofs.Ytkboeldafppicaa
open Go.RowKit

set_option maxRecDepth 100000 in
set_option maxHeartbeats 4000000 in
theorem menuFirsts_walk (A : Option Addr) (l : List Int) (cap : Nat) (by_ : Int) (w : World) (hl : l.length ≤ 9223372036854775807) (hI : l.length ≤ 140737488355328 → Ints w A l) (hc : l.length ≤ cap) (hby : -9223372036854775808 ≤ by_ ∧ by_ ≤ 9223372036854775807) :
    Calls Try.prog 16 #[.slice A l.length cap, .int .i64 by_] w fun e w' => Below w.heap.size w w' ∧ e = .returned (.bool true) := by
  obtain ⟨i0, hinf, hz0, hz1, hz2⟩ := info_parts int_info
  have HLg := hid (llong_any A l.length cap w hl)
  by_cases hlong : 200 < l.length
  · rw [decide_eq_true hlong] at HLg
    clear hI hlong
    go_enter Try.func16, Try.ntmps16
    go_wp2_with fail
    refine HLg.out.mono ?_
    rintro e w1 ⟨rfl, rfl⟩
    go_wp2_with fail
    refine (known3_any _).mono ?_
    rintro e w2 ⟨hb, rfl⟩
    have HBz := hid hb
    go_wp2
    go_ret
    exact ⟨HBz.out, rfl⟩
  · rw [decide_eq_false hlong] at HLg
    have hI := hI (by omega)
    have HH := hid hI
    have HCc := hid hc
    have HP := hid (fun wx (hb : Below w.heap.size w wx) => mFirst_any A l cap wx (hI.below hb) hc)
    have HR := hid (fun wx (hb : Below w.heap.size w wx) => rFirst_any A l cap wx (hI.below hb) hc)
    have HUf := hid (show lE l 6 = 0 → fsL l = fstK l l.length from fun h => if_pos h)
    have HO := hid (fun hh => lE_ok (l := l) (n := 6) hh)
    have h200 : l.length ≤ 200 := by omega
    clear hI hc hlong hl
    generalize hul : fsL l = ul at *
    generalize hue : lE l 6 = ue at *
    clear hul hue
    go_enter Try.func16, Try.ntmps16
    go_wp2_with fail
    refine HLg.out.mono ?_
    rintro e w1 ⟨rfl, rfl⟩
    go_wp2_with fail
    refine (HP.out _ (Below.refl _ _)).mono ?_
    rintro e w2 ⟨hb, Ax, cx, rfl, hI5⟩
    have HI5 := hid hI5
    have HB3 := hid hb
    clear hb hI5
    go_wp2_with fail
    refine (HR.out _ HB3.out).mono ?_
    rintro e w3 ⟨hb, A6, c6, rfl, hI6⟩
    have HB4 := hid (HB3.out.trans (hb.mono HB3.out.size))
    have HI5b := hid (HI5.out.below hb)
    have HS := hid (sameIntsM_any Ax A6 ul ul cx c6 w3 HI5b.out hI6)
    rw [show decide (ul = ul) = true by simp] at HS
    clear hb hI6 HP HR
    go_wp2_with fail
    refine HS.out.mono ?_
    rintro e w5 ⟨⟨n5, rfl⟩, rfl⟩
    have HB5 := hid (below_drewN HB4.out n5)
    have HI7 := hid (HI5b.out.below (below_drewN (Below.refl _ _) n5))
    generalize w3.drewN n5 = wr at *
    by_cases hue : ue = 0
    · subst hue
      obtain ⟨h20, hall⟩ := HO.out rfl
      have HUl := hid (HUf.out rfl)
      have HAll := hid hall
      clear hall HO HUf
      by_cases h0 : l.length = 0
      · have h0' : ((l.length : Int) == 0) = true := by rw [beq_iff_eq]; omega
        clear h0
        go_wp2_with fail
        refine (known3_any _).mono ?_
        rintro e w7 ⟨hb, rfl⟩
        have HBz := hid (HB5.out.trans (hb.mono HB5.out.size))
        clear hb
        go_wp2
        go_ret
        exact ⟨HBz.out, rfl⟩
      · have h0' : ((l.length : Int) == 0) = false := by rw [beq_eq_false_iff_ne]; omega
        have hne : (l.length : Int) ≠ 0 := by omega
        obtain ⟨p, hp⟩ : ∃ p : Nat, IntKind.u64.wrap by_ = (p : Int) := ⟨(IntKind.u64.wrap by_).toNat, by rw [IntKind.wrap_u64]; omega⟩
        have hlw : IntKind.u64.wrap (l.length : Int) = (l.length : Int) := by rw [IntKind.wrap_u64]; omega
        have hql : p % l.length < l.length := Nat.mod_lt _ (by omega)
        have hmod : Int.tmod (p : Int) (l.length : Int) = ((p % l.length : Nat) : Int) := by rw [Int.tmod_eq_emod_of_nonneg (by omega)]; omega
        generalize p % l.length = q at *
        have hkw : IntKind.i64.wrap (q : Int) = (q : Int) := IntWalk.i64_in _ (by omega)
        have hku : IntKind.u64.wrap (q : Int) = (q : Int) := by rw [IntKind.wrap_u64]; omega
        have hlen : l.length ≤ 20 := h20
        have HIw := hid (HH.out.below HB5.out)
        obtain ⟨Af, cf, rf, hCf⟩ := cut_fromM HH.out HCc.out q (by omega)
        obtain ⟨At, ct, rt, hCt⟩ := cut_toM HH.out HCc.out q (by omega)
        have HCf := hid hCf
        have HCt := hid hCt
        have hqi : (q : Int) < (l.length : Int) := by omega
        have hq0 : (0 : Int) ≤ (q : Int) := by omega
        have hqi2 : (q : Int) ≤ (l.length : Int) := by omega
        have hr0 : Below wr.heap.size wr wr := Below.refl _ _
        clear hCf hCt h0
        go_wp2_with fail
        as_aux_lemma =>
          refine wp_region_held_drew (S := (fun w' => Below wr.heap.size wr w')) (by kernel_rfl) hr0.drew (fun hHeld => ?_)
          refine take_d (i := 1) (d := some 50) (v := ?_) rfl rfl (by kernel_rfl) (by kernel_rfl) (by kernel_rfl) (fun _ _ _ h => h) (Or.inl ⟨by first | rfl | (simp [*, Region.wanted, yielded]), ?hyq1⟩) (by assumption) ?restq1
          case hyq1 => (intro w hSw; (try dsimp only at hSw); go_simp <;> with_reducible rfl)
          try simp only [Act.put, List.setIfInBounds_toArray, List.set_cons_zero, List.set_cons_succ]
          refine take_d (i := 2) (d := some 51) (v := ?_) rfl rfl (by kernel_rfl) (by kernel_rfl) (by kernel_rfl) (fun _ _ _ h => h) (Or.inl ⟨by first | rfl | (simp [*, Region.wanted, yielded]), ?hyq2⟩) (by assumption) ?restq2
          case hyq2 => (intro w hSw; (try dsimp only at hSw); go_simp <;> with_reducible rfl)
          try simp only [Act.put, List.setIfInBounds_toArray, List.set_cons_zero, List.set_cons_succ]
          refine take_d (i := 3) (d := some 52) (v := ?_) rfl rfl (by kernel_rfl) (by kernel_rfl) (by kernel_rfl) (fun _ _ _ h => h) (Or.inl ⟨by first | rfl | (simp [*, Region.wanted, yielded]), ?hyq3⟩) (by assumption) ?restq3
          case hyq3 => (intro w hSw; (try dsimp only at hSw); go_simp <;> with_reducible rfl)
          try simp only [Act.put, List.setIfInBounds_toArray, List.set_cons_zero, List.set_cons_succ]
          refine take_d (i := 5) (d := some 54) (v := ?_) rfl rfl (by kernel_rfl) (by kernel_rfl) (by kernel_rfl) (fun _ _ _ h => h) (Or.inl ⟨by first | rfl | (simp [*, Region.wanted, yielded]), ?hyq4⟩) (by assumption) ?restq4
          case hyq4 => (intro w hSw; (try dsimp only at hSw); go_simp <;> with_reducible rfl)
          try simp only [Act.put, List.setIfInBounds_toArray, List.set_cons_zero, List.set_cons_succ]
          refine take_d (i := 6) (d := some 55) (v := ?_) rfl rfl (by kernel_rfl) (by kernel_rfl) (by kernel_rfl) (fun _ _ _ h => h) (Or.inl ⟨by first | rfl | (simp [*, Region.wanted, yielded]), ?hyq5⟩) (by assumption) ?restq5
          case hyq5 => (intro w hSw; (try dsimp only at hSw); go_simp <;> with_reducible rfl)
          try simp only [Act.put, List.setIfInBounds_toArray, List.set_cons_zero, List.set_cons_succ]
          refine take_d (i := 7) (d := some 56) (v := ?_) rfl rfl (by kernel_rfl) (by kernel_rfl) (by kernel_rfl) (fun _ _ _ h => h) (Or.inl ⟨by first | rfl | (simp [*, Region.wanted, yielded]), ?hyq6⟩) (by assumption) ?restq6
          case hyq6 => (intro w hSw; (try dsimp only at hSw); go_simp <;> with_reducible rfl)
          try simp only [Act.put, List.setIfInBounds_toArray, List.set_cons_zero, List.set_cons_succ]
          refine wpAnyH_ready (rs := [0]) (by kernel_rfl) (by simp) ?_
          refine AllReadyH.cons (o := _) rfl (fun K hK => ?_) AllReadyH.nil
          go_simp
          go_wp2_with fail
          refine hK.out _ _ (hr0.drew.alloc (Nat.le_refl _) _) (fun hHeld => ?_)
          clear hK K
          try simp only [Act.put, List.setIfInBounds_toArray, List.set_cons_zero, List.set_cons_succ]
          refine wpAnyH_ready (rs := [4]) (by kernel_rfl) (by simp) ?_
          refine AllReadyH.cons (o := _) rfl (fun K hK => ?_) AllReadyH.nil
          have hcur : Below wr.heap.size wr (wr.drew.alloc (.cells #[] 3)) := hr0.drew.alloc (Nat.le_refl _) _
          have hE : (wr.drew.alloc (.cells #[] 3)).ownsRow wr.heap.size 3 1 (.slice (some ⟨wr.heap.size, 0, none⟩) 0 0) 0 [] := by simpa using (World.ownsRow_lit (base := wr.heap.size) (e := 3) (size := 1) wr.drew #[] 0 (Nat.le_refl _) (by decide) (by simp))
          have hSr := ints_src (HCf.out _ (HIw.out.below hcur))
          rw [List.length_drop] at hSr
          refine step_append_src rfl _ _ 26 rfl wr.heap.size 3 i0 (.int .i64 0) 1 8 Try.underlying26 hinf hz0 hz1 hz2 rfl (by decide) (.slice (some ⟨wr.heap.size, 0, none⟩) 0 0) 0 [] (by rfl) hE Af (l.length - q) cf ((l.drop q).map (Value.int .i64)) (by rfl) (by simp) hSr (ints_one _) (by unfold maxLen; omega) (by omega) (by first | (simp; done) | (simp; omega)) ?_
          intro v5 w5 hown5 hgr5
          have p5 : Below wr.heap.size wr w5 := hcur.grown hgr5 hcur.size (fun q hq => by simp [Value.ownBlock] at hq; omega)
          have hO5 : w5.ownsRow wr.heap.size 3 1 v5 (l.length - q) ((l.drop q).map (Value.int .i64)) := by simpa using hown5
          have HO5 := hid hO5
          obtain ⟨A5, c5, hv5⟩ : ∃ A c, v5 = .slice A (l.length - q) c := by
            rcases hO5.2 with ⟨hv, hn⟩ | ⟨g, c, cur, hv, _⟩
            · exact ⟨none, 0, by rw [hv, hn]⟩
            · exact ⟨_, _, hv⟩
          subst hv5
          clear hown5 hgr5 hE hSr hcur hO5
          refine hK.out _ _ p5 (fun hHeld => ?_)
          clear hK K
          try simp only [Act.put, List.setIfInBounds_toArray, List.set_cons_zero, List.set_cons_succ]
          refine wpAnyH_ready (rs := [8]) (by kernel_rfl) (by simp) ?_
          refine AllReadyH.cons (o := _) rfl (fun K hK => ?_) AllReadyH.nil
          have hSr := ints_src (HCt.out _ (HIw.out.below p5))
          rw [List.length_take, Nat.min_eq_left (by omega)] at hSr
          have hO5 := HO5.out
          have hbs5 := p5.size
          refine step_append_src rfl _ _ 26 rfl wr.heap.size 3 i0 (.int .i64 0) 1 8 Try.underlying26 hinf hz0 hz1 hz2 rfl (by decide) (.slice A5 (l.length - q) c5) (l.length - q) ((l.drop q).map (Value.int .i64)) (by rfl) hO5 At q ct ((l.take q).map (Value.int .i64)) (by rfl) (by simp; omega) hSr (ints_one _) (by unfold maxLen; omega) (by omega) hbs5 ?_
          intro v8 w8 hown8 hgr8
          have p8 : Below wr.heap.size wr w8 := p5.grown hgr8 hbs5 (fun q hq => (hO5.lt q hq).1)
          have hO8 : w8.ownsRow wr.heap.size 3 1 v8 l.length ((rotL l q).map (Value.int .i64)) := by
            have h9 := hown8
            rw [← List.map_append, show l.length - q + q = l.length by omega] at h9
            exact h9
          have HO8 := hid hO8
          obtain ⟨A8, c8, hv8⟩ : ∃ A c, v8 = .slice A l.length c := by
            rcases hO8.2 with ⟨hv, hn⟩ | ⟨g, c, cur, hv, _⟩
            · exact ⟨none, 0, by rw [hv, hn]⟩
            · exact ⟨_, _, hv⟩
          subst hv8
          clear hown8 hgr8 hSr hO5 hO8
          refine hK.out _ _ p8 (fun hHeld => ?_)
          clear hK K
          try simp only [Act.put, List.setIfInBounds_toArray, List.set_cons_zero, List.set_cons_succ]
          refine take_d (i := 9) (d := some 9) (v := ?_) rfl rfl (by kernel_rfl) (by kernel_rfl) (by kernel_rfl) (fun _ _ _ h => h) (Or.inl ⟨by first | rfl | (simp [*, Region.wanted, yielded]), ?hyq7⟩) (by assumption) ?restq7
          case hyq7 => (intro w hSw; (try dsimp only at hSw); go_simp <;> with_reducible rfl)
          try simp only [Act.put, List.setIfInBounds_toArray, List.set_cons_zero, List.set_cons_succ]
          refine wpAnyH_done (by kernel_rfl) ?_ _
          go_simp
          go_wp2_with fail
          have hcap : l.length ≤ c8 := by
            rcases HO8.out.2 with ⟨hv, hn⟩ | ⟨g, c, cur, hv, _, _, hn, _⟩
            · omega
            · simp only [Value.slice.injEq, true_and] at hv; omega
          have HBz := hid (HB5.out.trans (p8.mono HB5.out.size))
          have HMem := hid (show ∀ x ∈ rotL l q, x ∈ l from fun x hx => by
            unfold rotL at hx
            rcases List.mem_append.1 hx with h | h
            · exact List.mem_of_mem_drop h
            · exact List.mem_of_mem_take h)
          obtain ⟨a9, c9', hv9, hI9⟩ := (show Own w8 wr.heap.size (.slice A8 l.length c8) (rotL l q) by unfold Own; rw [rotL_len]; exact HO8.out).ints (by rw [rotL_len]; omega) (fun x hx => by
            have := allB_iff.1 HAll.out x (HMem.out x hx)
            omega)
          rw [rotL_len] at hv9
          simp only [Value.slice.injEq, true_and] at hv9
          obtain ⟨rfl, rfl⟩ := hv9
          have hlr : lE (rotL l q) 6 = 0 := by
            unfold lE
            rw [rotL_len, if_neg (by omega), if_pos]
            exact allB_iff.2 (fun x hx => allB_iff.1 HAll.out x (HMem.out x hx))
          have hfr : fsL (rotL l q) = ul := by
            unfold fsL
            rw [if_pos hlr, rotL_len, fstK_rot l q (by omega)]
            exact HUl.out.symm
          have hFi := mFirst_any A8 (rotL l q) c8 w8 hI9 (by rw [rotL_len]; exact hcap)
          rw [hlr, hfr, rotL_len] at hFi
          have HFi := hid hFi
          have HI8 := hid (HI7.out.below p8)
          clear hFi hlr hfr hI9 p8 p5 HO8 HO5 hHeld hr0 rf rt hcap
          go_wp2_with fail
          refine HFi.out.mono ?_
          rintro e w9 ⟨hb, A9, c9, rfl, hI10⟩
          have HB9 := hid (HBz.out.trans (hb.mono HBz.out.size))
          have HS2 := hid (sameIntsM_any A9 Ax ul ul c9 cx w9 hI10 (HI8.out.below hb))
          rw [show decide (ul = ul) = true by simp] at HS2
          clear hb hI10 HFi
          go_wp2_with fail
          refine HS2.out.mono ?_
          rintro e w10 ⟨⟨n10, rfl⟩, rfl⟩
          have HB10 := hid (below_drewN HB9.out n10)
          generalize w9.drewN n10 = wf at *
          go_wp2_with fail
          refine (known3_any _).mono ?_
          rintro e w11 ⟨hb, rfl⟩
          have HBy := hid (HB10.out.trans (hb.mono HB10.out.size))
          clear hb
          go_wp2
          go_ret
          exact ⟨HBy.out, rfl⟩
    · have hue' : (ue != 0) = true := by simpa using hue
      clear hue
      go_wp2_with fail
      refine (known3_any _).mono ?_
      rintro e w7 ⟨hb, rfl⟩
      have HBz := hid (HB5.out.trans (hb.mono HB5.out.size))
      clear hb
      go_wp2
      go_ret
      exact ⟨HBz.out, rfl⟩
end Go.Proofs.Ytkboeldafppicaa
