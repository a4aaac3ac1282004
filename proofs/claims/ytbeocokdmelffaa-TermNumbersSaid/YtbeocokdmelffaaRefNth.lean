/- The document's own answers Nth and Next. -/
import Derived.Test.YtbeocokdmelffaaRefOpen
set_option linter.unusedVariables false
namespace Go.Proofs.Ytbeocokdmelffaa
open Go.RowKit

set_option maxRecDepth 100000 in
set_option maxHeartbeats 2000000 in
theorem rnth_any (L : Int) (ra : Option Addr) (rs : List Int) (rc : Nat) (ca : Option Addr) (cs : List Int) (cc : Nat) (d : Int) (w : World) (h : TermAt w L ra rs ca cs) :
  Calls Try.prog 28 #[.agg #[.int .i64 L, .slice ra rs.length rc, .slice ca cs.length cc], .int .i64 d] w (Int2R w (nthL L rs cs d)) := by
  have hB := (Below.refl w.heap.size w).alloc (Nat.le_refl _) (.cells #[.int .i64 L, .slice ra rs.length rc, .slice ca cs.length cc] 24)
  have hA := h.below hB
  by_cases hz : validT L rs cs = 0
  · have hL1 := (validT_ok hz).1
    have hL2 := (validT_ok hz).2.1
    obtain ⟨n, rfl⟩ : ∃ n : Nat, L = n := ⟨L.toNat, by omega⟩
    have HM := hid (show nthL n rs cs d = nthLR (sdl (wd rs cs n)) d by rw [nthL, if_neg (by simp [hz])]; simp)
    have hlen := sd_length rs cs n
    have HB := hid (sd_bd rs cs n (by omega))
    have HZ := hid hz
    clear hz
    cases hd : inB d 0 (((sdl (wd rs cs n)).length : Int) - 1) with
    | false =>
      have HM2 := hid (show nthLR (sdl (wd rs cs n)) d = (0, 5) from nthLR_none _ _ (by simp [inB] at hd; unfold nthLI; omega))
      go_enter Try.func28, Try.ntmps28
      go_wp2_with fail
      refine (rvalidate_any _ _ _ _ _ _ _ _ hA).mono ?_
      rintro e w1 ⟨hb, rfl⟩
      have p1 := hB.trans (hb.mono (by simp))
      obtain ⟨d1, d2⟩ := bcell hb
      simp only [World.size_alloc] at d1 d2
      rw [HZ.out]
      go_wp2_with fail
      refine (rschool_any n _ _ _ _ _ _ _ (h.below p1) (by omega)).mono ?_
      rintro e w2 ⟨hb2, v, rfl, hown⟩
      have p2 := p1.trans (hb2.mono p1.size)
      obtain ⟨a, cap, rfl, hin⟩ := hown.ints (by omega) HB.out
      clear hown d1 d2
      go_wp2_with fail
      refine (within_any _ _ _ _).mono ?_
      rintro e w' ⟨rfl, rfl⟩
      rw [hd]
      go_wp2
      go_ret2
      exact ⟨p2, (by rw [HM.out, HM2.out]; rfl)⟩
    | true =>
      have hd' : 0 ≤ d ∧ d < ((sdl (wd rs cs n)).length : Int) := by simp [inB] at hd; omega
      obtain ⟨i, rfl⟩ : ∃ i : Nat, d = i := ⟨d.toNat, by omega⟩
      have hil : i < (sdl (wd rs cs n)).length := by omega
      have HM2 := hid (show nthLR (sdl (wd rs cs n)) i = ((sdl (wd rs cs n))[i]?.getD 0, 0) by
        rw [nthLR, nthAt, if_neg (by omega), Int.toNat_natCast, List.getElem?_eq_getElem hil]; rfl)
      go_enter Try.func28, Try.ntmps28
      go_wp2_with fail
      refine (rvalidate_any _ _ _ _ _ _ _ _ hA).mono ?_
      rintro e w1 ⟨hb, rfl⟩
      have p1 := hB.trans (hb.mono (by simp))
      obtain ⟨d1, d2⟩ := bcell hb
      simp only [World.size_alloc] at d1 d2
      rw [HZ.out]
      go_wp2_with fail
      refine (rschool_any n _ _ _ _ _ _ _ (h.below p1) (by omega)).mono ?_
      rintro e w2 ⟨hb2, v, rfl, hown⟩
      have p2 := p1.trans (hb2.mono p1.size)
      obtain ⟨a, cap, rfl, hin⟩ := hown.ints (by omega) HB.out
      rcases hin.at_ with e | ⟨bb, off, rfl, hcell⟩
      · rw [e] at hil; simp at hil
      have hcl := hcell i hil
      clear hown d1 d2 hcell hin
      have hil2 : (i : Int) < ((sdl (wd rs cs n)).length : Int) := by omega
      generalize (sdl (wd rs cs n))[i]?.getD 0 = x at *
      go_wp2_with fail
      refine (within_any _ _ _ _).mono ?_
      rintro e w' ⟨rfl, rfl⟩
      rw [hd]
      go_wp2
      go_ret2
      exact ⟨p2, (by rw [HM.out, HM2.out]; rfl)⟩
  · have hz' : (validT L rs cs != 0) = true := by simp [hz]
    have HM := hid (show nthL L rs cs d = (0, validT L rs cs) by rw [nthL, if_pos hz])
    clear hz
    go_enter Try.func28, Try.ntmps28
    go_wp2_with fail
    refine (rvalidate_any _ _ _ _ _ _ _ _ hA).mono ?_
    rintro e w1 ⟨hb, rfl⟩
    have p1 := hB.trans (hb.mono (by simp))
    go_wp2
    go_ret2
    exact ⟨p1, (by rw [HM.out]; rfl)⟩

set_option maxRecDepth 100000 in
set_option maxHeartbeats 2000000 in
theorem rnext_any (L : Int) (ra : Option Addr) (rs : List Int) (rc : Nat) (ca : Option Addr) (cs : List Int) (cc : Nat) (d : Int) (w : World) (h : TermAt w L ra rs ca cs) :
  Calls Try.prog 30 #[.agg #[.int .i64 L, .slice ra rs.length rc, .slice ca cs.length cc], .int .i64 d] w (Int2R w (nextL L rs cs d)) := by
  have hB := (Below.refl w.heap.size w).alloc (Nat.le_refl _) (.cells #[.int .i64 L, .slice ra rs.length rc, .slice ca cs.length cc] 24)
  have hA := h.below hB
  by_cases hz : checkD L rs cs d = 0
  · have hv := checkD_zero hz
    have hL1 := (validT_ok hv).1
    have hL2 := (validT_ok hv).2.1
    obtain ⟨n, rfl⟩ : ∃ n : Nat, L = n := ⟨L.toNat, by omega⟩
    have HM := hid (show nextL n rs cs d = optR (findGe d (sdl (wd rs cs n))) by rw [nextL, if_neg (by simp [hz])]; simp [nextLR])
    have HO := hid (show ropenL n rs cs d = (openB rs cs d, 0) by rw [ropenL, if_neg (by simp [hz])])
    have hlen := sd_length rs cs n
    have HB := hid (sd_bd rs cs n (by omega))
    clear hz hv
    go_enter Try.func30, Try.ntmps30
    go_wp2_with fail
    refine (risOpen_any _ _ _ _ _ _ _ _ _ hA).mono ?_
    rintro e w1 ⟨hb, rfl⟩
    have p1 := hB.trans (hb.mono (by simp))
    obtain ⟨d1, d2⟩ := bcell hb
    simp only [World.size_alloc] at d1 d2
    rw [HO.out]
    go_wp2_with fail
    refine (rschool_any n _ _ _ _ _ _ _ (h.below p1) (by omega)).mono ?_
    rintro e w2 ⟨hb2, v, rfl, hown⟩
    have p2 := p1.trans (hb2.mono p1.size)
    obtain ⟨a, cap, rfl, hin⟩ := hown.ints (by omega) HB.out
    clear hown d1 d2
    go_wp2
    go_loop [9] (fun i => ∃ k : Nat, k ≤ (sdl (wd rs cs n)).length ∧ i = .int .i64 k ∧ Hid (findGe d (sdl (wd rs cs n)) = findGe d ((sdl (wd rs cs n)).drop k))) (fun i => (sdl (wd rs cs n)).length - (intOf i).toNat)
    case atStart => exact ⟨0, Nat.zero_le _, rfl, rfl⟩
    case round =>
      obtain ⟨k, hk, rfl, HF⟩ := hrel
      by_cases hlt : k < (sdl (wd rs cs n)).length
      · rcases hin.at_ with e | ⟨bb, off, rfl, hcell⟩
        · rw [e] at hlt; simp at hlt
        have hcl := hcell k hlt
        have HD := hid (findGe_drop d _ k hlt)
        clear hcell hin
        generalize (sdl (wd rs cs n))[k]?.getD 0 = x at *
        by_cases hx : d ≤ x
        · go_wp2
          go_ret2
          exact ⟨p2, ret_ints (by rw [HM.out, HF.out, HD.out, if_pos hx]; rfl) (by rw [HM.out, HF.out, HD.out, if_pos hx]; rfl)⟩
        · have hx' : x < d := by omega
          go_wp2
          go_round
          case rel => exact ⟨k + 1, by omega, by go_num, by unfold Hid; rw [HF.out, HD.out, if_neg hx]⟩
          case measure => simp [intOf]; omega
      · go_wp2
        go_ret2
        exact ⟨p2, (by rw [HM.out, HF.out, List.drop_of_length_le (by omega)]; rfl)⟩
  · have hz' : (checkD L rs cs d != 0) = true := by simp [hz]
    have HM := hid (show nextL L rs cs d = (0, checkD L rs cs d) by rw [nextL, if_pos hz])
    have HO := hid (show ropenL L rs cs d = (false, checkD L rs cs d) by rw [ropenL, if_pos hz])
    clear hz
    go_enter Try.func30, Try.ntmps30
    go_wp2_with fail
    refine (risOpen_any _ _ _ _ _ _ _ _ _ hA).mono ?_
    rintro e w1 ⟨hb, rfl⟩
    have p1 := hB.trans (hb.mono (by simp))
    rw [HO.out]
    go_wp2
    go_ret2
    exact ⟨p1, (by rw [HM.out]; rfl)⟩

end Go.Proofs.Ytbeocokdmelffaa
