/- First of the program. -/
import Derived.Test.YtkboeldafppicaaMFstR
set_option linter.unusedVariables false
set_option linter.unusedSimpArgs false
namespace Go.Proofs.Ytkboeldafppicaa
open Go.RowKit

set_option maxRecDepth 100000 in
set_option maxHeartbeats 4000000 in
theorem mFirst_any (A : Option Addr) (l : List Int) (c : Nat) (w : World) (h : Ints w A l) (hc : l.length ≤ c) :
    Calls Try.prog 60 #[.slice A l.length c] w fun e w' => Below w.heap.size w w' ∧ WordAns w' (fsL l) (lE l 6) e := by
  have hlen := h.len
  have HH := hid h
  have HLt := hid (mCheckLetters_any A l c 6 w h)
  have HF := hid (show fsL l = if lE l 6 = 0 then fstK l l.length else [] from rfl)
  have HO := hid (fun hh => lE_ok (l := l) (n := 6) hh)
  have HCc := hid hc
  clear h hc
  go_enter Try.func60, Try.ntmps60
  go_wp2_with fail
  refine HLt.out.mono ?_
  rintro e w0 ⟨rfl, rfl⟩
  clear HLt
  generalize hv0 : lE l 6 = v at *
  have HV := hid hv0
  clear hv0
  by_cases hv : v = 0
  · subst hv
    obtain ⟨h20, hall⟩ := HO.out rfl
    have HA := hid hall
    have HFk := hid (show fsL l = fstK l l.length from HF.out.trans (if_pos rfl))
    clear hall HO
    go_wp2_with fail
    refine (mClone_any A l c _ HH.out (by omega)).mono ?_
    rintro e w1 ⟨hb1, v1, rfl, hO1⟩
    have HH := hid (HH.out.below hb1)
    have HB1 := hid hb1
    obtain ⟨A1, c1, hv1, hI1⟩ := hO1.ints (by omega) (fun x hx => by
      have := allB_iff.1 HA.out x hx
      omega)
    have HI1 := hid hI1
    clear hI1 hO1 hb1
    subst hv1
    go_wp2
    go_loopg [5, 17] l.length (fun gk v i wr => ∃ (k : Nat) (B : Option Addr) (cb : Nat), k + gk = l.length ∧ i = .int .i64 (k : Int) ∧ v = .slice B l.length cb ∧ Hid (Ints wr B (fstK l k)) ∧ Hid (Below w1.heap.size w1 wr))
    case atStart => exact ⟨0, A1, c1, by omega, rfl, rfl, HI1.out, Below.refl _ _⟩
    case round =>
      obtain ⟨k, B, cb, hkg, rfl, rfl, HB, HBw⟩ := hrel
      by_cases hlt : k < l.length
      · obtain ⟨gk', rfl⟩ : ∃ f, gk = f + 1 := ⟨gk - 1, by omega⟩
        have HIw := hid (HH.out.below HBw.out)
        obtain ⟨Af, cf, rf, hCf⟩ := cut_fromM HH.out HCc.out k (by omega)
        obtain ⟨At, ct, rt, hCt⟩ := cut_toM HH.out HCc.out k (by omega)
        have hki : (k : Int) < (l.length : Int) := by omega
        have hk0 : (0 : Int) ≤ (k : Int) := by omega
        have hki2 : (k : Int) ≤ (l.length : Int) := by omega
        have hr0 : Below wr.heap.size wr wr := Below.refl _ _
        have hcur : Below wr.heap.size wr (wr.drew.alloc (.cells #[.slice Af (l.length - k) cf, .slice At k ct] 26)) := hr0.drew.alloc (Nat.le_refl _) _
        have HCo := hid (mConcat_any wr.heap.size Af At (l.drop k) (l.take k) cf ct (wr.drew.alloc (.cells #[.slice Af (l.length - k) cf, .slice At k ct] 26)) (hCf _ (HIw.out.below hcur)) (hCt _ (HIw.out.below hcur)) (by rw [List.length_drop]; go_simp) (by rw [List.length_take, Nat.min_eq_left (by omega)]; go_simp) (by rw [List.length_drop, List.length_take]; omega) (by rw [List.length_drop, List.length_take]; omega))
        have HSt := hid (show fstK l (k + 1) = if lessL (rotL l k) (fstK l k) = true then rotL l k else fstK l k from rfl)
        have hlf := fstK_len l k
        have HLf := hid hlf
        clear hCf hCt hlf hcur
        go_wp2_with fail
        refine wp_region_held_drew (S := (fun w' => Below wr.heap.size wr w')) (by kernel_rfl) hr0.drew (fun hHeld => ?_)
        refine take_d (i := 0) (d := some 20) (v := ?_) rfl rfl (by kernel_rfl) (by kernel_rfl) (by kernel_rfl) (fun _ _ _ h => h) (Or.inl ⟨by first | rfl | (simp [*, Region.wanted, yielded]), ?hyq1⟩) (by assumption) ?restq1
        case hyq1 => (intro w hSw; (try dsimp only at hSw); go_simp <;> with_reducible rfl)
        try simp only [Act.put, List.setIfInBounds_toArray, List.set_cons_zero, List.set_cons_succ]
        refine take_d (i := 1) (d := some 21) (v := ?_) rfl rfl (by kernel_rfl) (by kernel_rfl) (by kernel_rfl) (fun _ _ _ h => h) (Or.inl ⟨by first | rfl | (simp [*, Region.wanted, yielded]), ?hyq2⟩) (by assumption) ?restq2
        case hyq2 => (intro w hSw; (try dsimp only at hSw); go_simp <;> with_reducible rfl)
        try simp only [Act.put, List.setIfInBounds_toArray, List.set_cons_zero, List.set_cons_succ]
        refine take_d (i := 2) (d := some 22) (v := ?_) rfl rfl (by kernel_rfl) (by kernel_rfl) (by kernel_rfl) (fun _ _ _ h => h) (Or.inl ⟨by first | rfl | (simp [*, Region.wanted, yielded]), ?hyq3⟩) (by assumption) ?restq3
        case hyq3 => (intro w hSw; (try dsimp only at hSw); go_simp <;> with_reducible rfl)
        try simp only [Act.put, List.setIfInBounds_toArray, List.set_cons_zero, List.set_cons_succ]
        refine take_d (i := 3) (d := some 23) (v := ?_) rfl rfl (by kernel_rfl) (by kernel_rfl) (by kernel_rfl) (fun _ _ _ h => h) (Or.inl ⟨by first | rfl | (simp [*, Region.wanted, yielded]), ?hyq4⟩) (by assumption) ?restq4
        case hyq4 => (intro w hSw; (try dsimp only at hSw); go_simp <;> with_reducible rfl)
        try simp only [Act.put, List.setIfInBounds_toArray, List.set_cons_zero, List.set_cons_succ]
        refine take_d (i := 4) (d := some 24) (v := ?_) rfl rfl (by kernel_rfl) (by kernel_rfl) (by kernel_rfl) (fun _ _ _ h => h) (Or.inl ⟨by first | rfl | (simp [*, Region.wanted, yielded]), ?hyq5⟩) (by assumption) ?restq5
        case hyq5 => (intro w hSw; (try dsimp only at hSw); go_simp <;> with_reducible rfl)
        try simp only [Act.put, List.setIfInBounds_toArray, List.set_cons_zero, List.set_cons_succ]
        refine take_d (i := 5) (d := some 25) (v := ?_) rfl rfl (by kernel_rfl) (by kernel_rfl) (by kernel_rfl) (fun _ _ _ h => h) (Or.inl ⟨by first | rfl | (simp [*, Region.wanted, yielded]), ?hyq6⟩) (by assumption) ?restq6
        case hyq6 => (intro w hSw; (try dsimp only at hSw); go_simp <;> with_reducible rfl)
        try simp only [Act.put, List.setIfInBounds_toArray, List.set_cons_zero, List.set_cons_succ]
        refine wpAnyH_ready (rs := [6]) (by kernel_rfl) (by simp) ?_
        refine AllReadyH.cons (o := _) rfl (fun K hK => ?_) AllReadyH.nil
        go_simp
        go_wp2_with fail
        refine hK.out _ _ (hr0.drew.alloc (Nat.le_refl _) _) (fun hHeld => ?_)
        clear hK K
        try simp only [Act.put, List.setIfInBounds_toArray, List.set_cons_zero, List.set_cons_succ]
        refine wpAnyH_ready (rs := [7]) (by kernel_rfl) (by simp) ?_
        refine AllReadyH.cons (o := _) rfl (fun K hK => ?_) AllReadyH.nil
        go_simp
        go_at_call 117
        refine HCo.out.mono ?_
        rintro e w8 ⟨hb8, v8, rfl, hO8⟩
        have p8 : Below wr.heap.size wr w8 := (hr0.drew.alloc (Nat.le_refl _) (.cells #[.slice Af (l.length - k) cf, .slice At k ct] 26)).trans (hb8.mono (by simp))
        have hO8 := own_weak hO8 (show wr.heap.size ≤ _ by simp)
        rw [List.length_append, List.length_drop, List.length_take, Nat.min_eq_left (by omega), show l.length - k + k = l.length by omega] at hO8
        have HO8 := hid (show w8.ownsRow wr.heap.size 3 1 v8 l.length ((rotL l k).map (Value.int .i64)) from hO8)
        obtain ⟨A8, c8, hv8⟩ : ∃ A c, v8 = .slice A l.length c := by
          rcases hO8.2 with ⟨hv, hn⟩ | ⟨g, c, cur, hv, _⟩
          · exact ⟨none, 0, by rw [hv, hn]⟩
          · exact ⟨_, _, hv⟩
        subst hv8
        clear hO8 hb8
        go_wp2_with fail
        refine hK.out _ _ p8 (fun hHeld => ?_)
        clear hK K
        try simp only [Act.put, List.setIfInBounds_toArray, List.set_cons_zero, List.set_cons_succ]
        refine take_d (i := 8) (d := some 7) (v := ?_) rfl rfl (by kernel_rfl) (by kernel_rfl) (by kernel_rfl) (fun _ _ _ h => h) (Or.inl ⟨by first | rfl | (simp [*, Region.wanted, yielded]), ?hyq7⟩) (by assumption) ?restq7
        case hyq7 => (intro w hSw; (try dsimp only at hSw); go_simp <;> with_reducible rfl)
        try simp only [Act.put, List.setIfInBounds_toArray, List.set_cons_zero, List.set_cons_succ]
        refine wpAnyH_done (by kernel_rfl) ?_ _
        go_simp
        go_wp2_with fail
        have HBz := hid (HBw.out.trans (p8.mono HBw.out.size))
        obtain ⟨a9, c9', hv9, hI9⟩ := (show Own w8 wr.heap.size (.slice A8 l.length c8) (rotL l k) by unfold Own; rw [rotL_len]; exact HO8.out).ints (by rw [rotL_len]; omega) (fun x hx => by
          have hx2 : x ∈ l := by
            unfold rotL at hx
            rcases List.mem_append.1 hx with h | h
            · exact List.mem_of_mem_drop h
            · exact List.mem_of_mem_take h
          have := allB_iff.1 HA.out x hx2
          omega)
        rw [rotL_len] at hv9
        simp only [Value.slice.injEq, true_and] at hv9
        obtain ⟨rfl, rfl⟩ := hv9
        have HI8 := hid hI9
        have HB8 := hid (HB.out.below p8)
        have hLs := mCompare_any A8 B (rotL l k) (fstK l k) c8 cb w8 HI8.out HB8.out (by rw [HLf.out, rotL_len])
        rw [rotL_len, HLf.out] at hLs
        have HLs := hid hLs
        clear hLs hI9 p8 HO8 hHeld hr0 rf rt
        go_wp2_with fail
        refine HLs.out.mono ?_
        rintro e w9 ⟨rfl, r9, rfl, hr9⟩
        have HR9 := hid hr9
        clear hr9 HLs
        cases hls : lessL (rotL l k) (fstK l k) with
        | true =>
          have HSt := hid (HSt.out.trans (if_pos hls))
          have hneg : r9 < 0 := HR9.out.2 hls
          clear hls
          go_wp2
          go_roundg gk'
          case rel => exact ⟨k + 1, _, _, by omega, by go_num, rfl, by rw [HSt.out]; exact HI8.out, HBz.out⟩
          all_goals omega
        | false =>
          have HSt := hid (HSt.out.trans (if_neg (by rw [hls]; simp)))
          have hneg : ¬ r9 < 0 := fun hh => by have := HR9.out.1 hh; rw [hls] at this; cases this
          clear hls
          go_wp2
          go_roundg gk'
          case rel => exact ⟨k + 1, _, _, by omega, by go_num, rfl, by rw [HSt.out]; exact HB8.out, HBz.out⟩
          all_goals omega
      · obtain rfl : k = l.length := by omega
        have hl9 := fstK_len l l.length
        have HL9 := hid hl9
        have HB9 := hid (HB1.out.trans (HBw.out.mono HB1.out.size))
        clear hl9
        go_wp2
        go_ret2
        exact ⟨HB9.out, B, cb, by rw [HFk.out, HV.out, HL9.out]; rfl, by rw [HFk.out]; exact HB.out⟩
  · have HF := hid (HF.out.trans (if_neg hv))
    have hv' : (v != 0) = true := by simpa using hv
    clear hv HO
    go_wp2
    go_ret2
    exact ⟨Below.refl _ _, none, 0, by rw [HF.out, HV.out]; rfl, by rw [HF.out]; exact ints_nil _ _⟩
end Go.Proofs.Ytkboeldafppicaa
