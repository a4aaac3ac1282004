/- The document's First: chapter 3. -/
import Derived.Test.YtkboeldafppicaaMFstP
import Derived.Test.YtkboeldafppicaaStepSrc
import Derived.Test.YtkboeldafppicaaTakeD
import Derived.Test.YtkboeldafppicaaMUnrank
import Derived.Deep.RegionHeld3
set_option linter.unusedVariables false
set_option linter.unusedSimpArgs false
namespace Go.Proofs.Ytkboeldafppicaa
open Go.RowKit

/-- What First answers. -/
def fsL (l : List Int) : List Int := if lE l 6 = 0 then fstK l l.length else []
theorem lE_ok {l : List Int} {n : Int} (h : lE l n = 0) : l.length ≤ 20 ∧ allB l n = true := by
  unfold lE at h
  split at h
  · cases h
  · split at h
    · rename_i h1 h2; exact ⟨by omega, h2⟩
    · cases h
theorem fstK_mem (l : List Int) (k : Nat) : ∀ x ∈ fstK l k, x ∈ l := by
  intro x hx
  rcases (fstK_spec l k).1 with e | ⟨i, _, e⟩
  · rw [e] at hx; exact hx
  · rw [e] at hx
    unfold rotL at hx
    rcases List.mem_append.1 hx with h | h
    · exact List.mem_of_mem_drop h
    · exact List.mem_of_mem_take h
set_option maxRecDepth 100000 in
set_option maxHeartbeats 4000000 in
theorem rFirst_any (A : Option Addr) (l : List Int) (c : Nat) (w : World) (h : Ints w A l) (hc : l.length ≤ c) :
    Calls Try.prog 61 #[.slice A l.length c] w fun e w' => Below w.heap.size w w' ∧ WordAns w' (fsL l) (lE l 6) e := by
  obtain ⟨i0, hinf, hz0, hz1, hz2⟩ := info_parts int_info
  have hlen := h.len
  have HH := hid h
  have HLt := hid (rLetters_any A l c 6 w h (by omega))
  have HF := hid (show fsL l = if lE l 6 = 0 then fstK l l.length else [] from rfl)
  have HO := hid (fun hh => lE_ok (l := l) (n := 6) hh)
  have HCc := hid hc
  clear h hc
  go_enter Try.func61, Try.ntmps61
  go_wp2_with fail
  refine HLt.out.mono ?_
  rintro e w1 ⟨rfl, rfl⟩
  clear HLt
  generalize hv0 : lE l 6 = v at *
  have HV := hid hv0
  clear hv0
  by_cases hv : v = 0
  · subst hv
    obtain ⟨h20, hall⟩ := HO.out rfl
    have HA := hid hall
    have HF := hid (show fsL l = fstK l l.length from HF.out.trans (if_pos rfl))
    clear hall HO
    go_wp2
    go_loopg [5, 6] l.length (fun gk v i wr => ∃ (k : Nat) (B : Option Addr) (cb : Nat), 1 ≤ k ∧ k + gk = l.length + 1 ∧ (k ≤ l.length ∨ l.length = 0) ∧ i = .int .i64 (k : Int) ∧ v = .slice B l.length cb ∧ Hid (Ints wr B (fstK l k)) ∧ Hid (Below w1.heap.size w1 wr))
    case atStart => exact ⟨1, A, c, Nat.le_refl _, by omega, by omega, rfl, rfl, by rw [fstK_one]; exact HH.out, Below.refl _ _⟩
    case round =>
      obtain ⟨k, B, cb, hk1, hkg, hkl, rfl, rfl, HB, HBw⟩ := hrel
      by_cases hlt : k < l.length
      · obtain ⟨gk', rfl⟩ : ∃ f, gk = f + 1 := ⟨gk - 1, by omega⟩
        have HIw := hid (HH.out.below HBw.out)
        obtain ⟨Af, cf, rf, hCf⟩ := cut_fromM HH.out HCc.out k (by omega)
        obtain ⟨At, ct, rt, hCt⟩ := cut_toM HH.out HCc.out k (by omega)
        have HCf := hid hCf
        have HCt := hid hCt
        have hki : (k : Int) < (l.length : Int) := by omega
        have hk0 : (0 : Int) ≤ (k : Int) := by omega
        have hki2 : (k : Int) ≤ (l.length : Int) := by omega
        have hr0 : Below wr.heap.size wr wr := Below.refl _ _
        have HSt := hid (show fstK l (k + 1) = if lessL (rotL l k) (fstK l k) = true then rotL l k else fstK l k from rfl)
        have hlf := fstK_len l k
        have HLf := hid hlf
        clear hCf hCt hlf
        go_wp2_with fail
        refine wp_region_held_drew (S := (fun w' => Below wr.heap.size wr w')) (by kernel_rfl) hr0.drew (fun hHeld => ?_)
        refine take_d (i := 1) (d := some 21) (v := ?_) rfl rfl (by kernel_rfl) (by kernel_rfl) (by kernel_rfl) (fun _ _ _ h => h) (Or.inl ⟨by first | rfl | (simp [*, Region.wanted, yielded]), ?hyq1⟩) (by assumption) ?restq1
        case hyq1 => (intro w hSw; (try dsimp only at hSw); go_simp <;> with_reducible rfl)
        try simp only [Act.put, List.setIfInBounds_toArray, List.set_cons_zero, List.set_cons_succ]
        refine take_d (i := 2) (d := some 22) (v := ?_) rfl rfl (by kernel_rfl) (by kernel_rfl) (by kernel_rfl) (fun _ _ _ h => h) (Or.inl ⟨by first | rfl | (simp [*, Region.wanted, yielded]), ?hyq2⟩) (by assumption) ?restq2
        case hyq2 => (intro w hSw; (try dsimp only at hSw); go_simp <;> with_reducible rfl)
        try simp only [Act.put, List.setIfInBounds_toArray, List.set_cons_zero, List.set_cons_succ]
        refine take_d (i := 3) (d := some 23) (v := ?_) rfl rfl (by kernel_rfl) (by kernel_rfl) (by kernel_rfl) (fun _ _ _ h => h) (Or.inl ⟨by first | rfl | (simp [*, Region.wanted, yielded]), ?hyq3⟩) (by assumption) ?restq3
        case hyq3 => (intro w hSw; (try dsimp only at hSw); go_simp <;> with_reducible rfl)
        try simp only [Act.put, List.setIfInBounds_toArray, List.set_cons_zero, List.set_cons_succ]
        refine take_d (i := 5) (d := some 25) (v := ?_) rfl rfl (by kernel_rfl) (by kernel_rfl) (by kernel_rfl) (fun _ _ _ h => h) (Or.inl ⟨by first | rfl | (simp [*, Region.wanted, yielded]), ?hyq4⟩) (by assumption) ?restq4
        case hyq4 => (intro w hSw; (try dsimp only at hSw); go_simp <;> with_reducible rfl)
        try simp only [Act.put, List.setIfInBounds_toArray, List.set_cons_zero, List.set_cons_succ]
        refine take_d (i := 6) (d := some 26) (v := ?_) rfl rfl (by kernel_rfl) (by kernel_rfl) (by kernel_rfl) (fun _ _ _ h => h) (Or.inl ⟨by first | rfl | (simp [*, Region.wanted, yielded]), ?hyq5⟩) (by assumption) ?restq5
        case hyq5 => (intro w hSw; (try dsimp only at hSw); go_simp <;> with_reducible rfl)
        try simp only [Act.put, List.setIfInBounds_toArray, List.set_cons_zero, List.set_cons_succ]
        refine take_d (i := 7) (d := some 27) (v := ?_) rfl rfl (by kernel_rfl) (by kernel_rfl) (by kernel_rfl) (fun _ _ _ h => h) (Or.inl ⟨by first | rfl | (simp [*, Region.wanted, yielded]), ?hyq6⟩) (by assumption) ?restq6
        case hyq6 => (intro w hSw; (try dsimp only at hSw); go_simp <;> with_reducible rfl)
        try simp only [Act.put, List.setIfInBounds_toArray, List.set_cons_zero, List.set_cons_succ]
        refine wpAnyH_ready (rs := [0]) (by kernel_rfl) (by simp) ?_
        refine AllReadyH.cons (o := _) rfl (fun K hK => ?_) AllReadyH.nil
        go_simp
        go_wp2_with fail
        refine hK.out _ _ (hr0.drew.alloc (Nat.le_refl _) _) (fun hHeld => ?_)
        clear hK K
        try simp only [Act.put, List.setIfInBounds_toArray, List.set_cons_zero, List.set_cons_succ]
        refine wpAnyH_ready (rs := [4]) (by kernel_rfl) (by simp) ?_
        refine AllReadyH.cons (o := _) rfl (fun K hK => ?_) AllReadyH.nil
        have hcur : Below wr.heap.size wr (wr.drew.alloc (.cells #[] 3)) := hr0.drew.alloc (Nat.le_refl _) _
        have hE : (wr.drew.alloc (.cells #[] 3)).ownsRow wr.heap.size 3 1 (.slice (some ⟨wr.heap.size, 0, none⟩) 0 0) 0 [] := by simpa using (World.ownsRow_lit (base := wr.heap.size) (e := 3) (size := 1) wr.drew #[] 0 (Nat.le_refl _) (by decide) (by simp))
        have hSr := ints_src (HCf.out _ (HIw.out.below hcur))
        rw [List.length_drop] at hSr
        refine step_append_src rfl _ _ 26 rfl wr.heap.size 3 i0 (.int .i64 0) 1 8 Try.underlying26 hinf hz0 hz1 hz2 rfl (by decide) (.slice (some ⟨wr.heap.size, 0, none⟩) 0 0) 0 [] (by rfl) hE Af (l.length - k) cf ((l.drop k).map (Value.int .i64)) (by rfl) (by simp) hSr (ints_one _) (by unfold maxLen; omega) (by omega) (by first | (simp; done) | (simp; omega)) ?_
        intro v5 w5 hown5 hgr5
        have p5 : Below wr.heap.size wr w5 := hcur.grown hgr5 hcur.size (fun q hq => by simp [Value.ownBlock] at hq; omega)
        have hO5 : w5.ownsRow wr.heap.size 3 1 v5 (l.length - k) ((l.drop k).map (Value.int .i64)) := by simpa using hown5
        have HO5 := hid hO5
        obtain ⟨A5, c5, hv5⟩ : ∃ A c, v5 = .slice A (l.length - k) c := by
          rcases hO5.2 with ⟨hv, hn⟩ | ⟨g, c, cur, hv, _⟩
          · exact ⟨none, 0, by rw [hv, hn]⟩
          · exact ⟨_, _, hv⟩
        subst hv5
        clear hown5 hgr5 hE hSr hcur hO5
        refine hK.out _ _ p5 (fun hHeld => ?_)
        clear hK K
        try simp only [Act.put, List.setIfInBounds_toArray, List.set_cons_zero, List.set_cons_succ]
        refine wpAnyH_ready (rs := [8]) (by kernel_rfl) (by simp) ?_
        refine AllReadyH.cons (o := _) rfl (fun K hK => ?_) AllReadyH.nil
        have hSr := ints_src (HCt.out _ (HIw.out.below p5))
        rw [List.length_take, Nat.min_eq_left (by omega)] at hSr
        have hO5 := HO5.out
        have hbs5 := p5.size
        refine step_append_src rfl _ _ 26 rfl wr.heap.size 3 i0 (.int .i64 0) 1 8 Try.underlying26 hinf hz0 hz1 hz2 rfl (by decide) (.slice A5 (l.length - k) c5) (l.length - k) ((l.drop k).map (Value.int .i64)) (by rfl) hO5 At k ct ((l.take k).map (Value.int .i64)) (by rfl) (by simp; omega) hSr (ints_one _) (by unfold maxLen; omega) (by omega) hbs5 ?_
        intro v8 w8 hown8 hgr8
        have p8 : Below wr.heap.size wr w8 := p5.grown hgr8 hbs5 (fun q hq => (hO5.lt q hq).1)
        have hO8 : w8.ownsRow wr.heap.size 3 1 v8 l.length ((rotL l k).map (Value.int .i64)) := by
          have h9 := hown8
          rw [← List.map_append, show l.length - k + k = l.length by omega] at h9
          exact h9
        have HO8 := hid hO8
        obtain ⟨A8, c8, hv8⟩ : ∃ A c, v8 = .slice A l.length c := by
          rcases hO8.2 with ⟨hv, hn⟩ | ⟨g, c, cur, hv, _⟩
          · exact ⟨none, 0, by rw [hv, hn]⟩
          · exact ⟨_, _, hv⟩
        subst hv8
        clear hown8 hgr8 hSr hO5 hO8
        refine hK.out _ _ p8 (fun hHeld => ?_)
        clear hK K
        try simp only [Act.put, List.setIfInBounds_toArray, List.set_cons_zero, List.set_cons_succ]
        refine take_d (i := 9) (d := some 7) (v := ?_) rfl rfl (by kernel_rfl) (by kernel_rfl) (by kernel_rfl) (fun _ _ _ h => h) (Or.inl ⟨by first | rfl | (simp [*, Region.wanted, yielded]), ?hyq7⟩) (by assumption) ?restq7
        case hyq7 => (intro w hSw; (try dsimp only at hSw); go_simp <;> with_reducible rfl)
        try simp only [Act.put, List.setIfInBounds_toArray, List.set_cons_zero, List.set_cons_succ]
        refine wpAnyH_done (by kernel_rfl) ?_ _
        go_simp
        go_wp2_with fail
        have HBz := hid (HBw.out.trans (p8.mono HBw.out.size))
        obtain ⟨a9, c9', hv9, hI9⟩ := (show Own w8 wr.heap.size (.slice A8 l.length c8) (rotL l k) by unfold Own; rw [rotL_len]; exact HO8.out).ints (by rw [rotL_len]; omega) (fun x hx => by
          have hx2 : x ∈ l := by
            unfold rotL at hx
            rcases List.mem_append.1 hx with h | h
            · exact List.mem_of_mem_drop h
            · exact List.mem_of_mem_take h
          have := allB_iff.1 HA.out x hx2
          omega)
        rw [rotL_len] at hv9
        simp only [Value.slice.injEq, true_and] at hv9
        obtain ⟨rfl, rfl⟩ := hv9
        have HI8 := hid hI9
        have HB8 := hid (HB.out.below p8)
        have hLs := rLess_any A8 B (rotL l k) (fstK l k) c8 cb w8 HI8.out HB8.out (by rw [HLf.out, rotL_len])
        rw [rotL_len, HLf.out] at hLs
        have HLs := hid hLs
        clear hLs hI9 p8 p5 HO8 HO5 hHeld hr0 rf rt
        cases hls : lessL (rotL l k) (fstK l k) with
        | true =>
          rw [hls] at HLs
          have HSt := hid (HSt.out.trans (if_pos hls))
          clear hls
          go_wp2_with fail
          refine HLs.out.mono ?_
          rintro e w9 ⟨hb, rfl⟩
          have HI9 := hid (HI8.out.below hb)
          have HB9 := hid (HBz.out.trans (hb.mono HBz.out.size))
          clear hb HLs
          go_wp2
          go_roundg gk'
          case rel => exact ⟨k + 1, _, _, by omega, by omega, by omega, by go_num, rfl, by rw [HSt.out]; exact HI9.out, HB9.out⟩
          all_goals omega
        | false =>
          rw [hls] at HLs
          have HSt := hid (HSt.out.trans (if_neg (by rw [hls]; simp)))
          clear hls
          go_wp2_with fail
          refine HLs.out.mono ?_
          rintro e w9 ⟨hb, rfl⟩
          have HI9 := hid (HB8.out.below hb)
          have HB9 := hid (HBz.out.trans (hb.mono HBz.out.size))
          clear hb HLs
          go_wp2
          go_roundg gk'
          case rel => exact ⟨k + 1, _, _, by omega, by omega, by omega, by go_num, rfl, by rw [HSt.out]; exact HI9.out, HB9.out⟩
          all_goals omega
      · have HFz := hid (show fstK l k = fstK l l.length from by
          by_cases e : l.length = 0
          · obtain rfl : k = 1 := by omega
            rw [fstK_one, e]; rfl
          · rw [show k = l.length by omega])
        have hI9 := HB.out
        rw [HFz.out] at hI9
        have hl9 := fstK_len l l.length
        have HI9 := hid hI9
        have hkf : ¬ (k : Int) < (l.length : Int) := by omega
        have hE : (wr.alloc (.cells #[] 3)).ownsRow wr.heap.size 3 1 (.slice (some ⟨wr.heap.size, 0, none⟩) 0 0) 0 [] := by simpa using (World.ownsRow_lit (base := wr.heap.size) (e := 3) (size := 1) wr #[] 0 (Nat.le_refl _) (by decide) (by simp))
        have hA : Below wr.heap.size wr (wr.alloc (.cells #[] 3)) := (Below.refl _ _).alloc (Nat.le_refl _) _
        have hSr := ints_src (HI9.out.below hA)
        rw [hl9] at hSr
        have HAw := hid hA
        have HL9 := hid hl9
        clear hI9 hl9 hA
        go_wp2_with (at_builtin; refine wpList_append_src rfl _ _ 26 rfl wr.heap.size 3 i0 (.int .i64 0) 1 8 Try.underlying26 hinf hz0 hz1 hz2 rfl (by decide) (.slice (some ⟨wr.heap.size, 0, none⟩) 0 0) 0 [] rfl hE B l.length cb ((fstK l l.length).map (Value.int .i64)) rfl (by rw [List.length_map, HL9.out]; omega) hSr (ints_one _) (by unfold maxLen; omega) (by omega) (by simp) ?_)
        intro v9 w9 hown9 hgr9
        have HB9 := hid (HBw.out.trans ((HAw.out.grown hgr9 (by simp) (fun q hq => by simp [Value.ownBlock] at hq; omega)).mono HBw.out.size))
        have HO9 := hid (show Own w9 wr.heap.size v9 (fstK l l.length) by unfold Own; rw [HL9.out]; simpa using hown9)
        obtain ⟨A9, c9, hv9, hI9⟩ := HO9.out.ints (by rw [HL9.out]; omega) (fun x hx => by
          have := allB_iff.1 HA.out x (fstK_mem l _ x hx)
          omega)
        have HI9 := hid hI9
        clear hown9 hgr9 hE hSr hI9
        subst hv9
        go_wp2
        go_ret2
        exact ⟨HB9.out, A9, c9, by rw [HF.out, HV.out]; rfl, by rw [HF.out]; exact HI9.out⟩
  · have HF := hid (HF.out.trans (if_neg hv))
    have hv' : (v != 0) = true := by simpa using hv
    clear hv HO
    go_wp2
    go_ret2
    exact ⟨Below.refl _ _, none, 0, by rw [HF.out, HV.out]; rfl, by rw [HF.out]; exact ints_nil _ _⟩
end Go.Proofs.Ytkboeldafppicaa
