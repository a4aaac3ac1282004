/- The document's own answer for how many menus are lost. -/
import Derived.Test.YtijfcifoemndeaaRServed
import Derived.StillTailTactics
set_option linter.unusedVariables false
namespace Go.Proofs.Ytijfcifoemndeaa
open Go.RowKit

theorem lostL_eq (L : Int) (rs cs : List Int) (m f k : Int) : lostL L rs cs m f k =
    if checkC L rs cs [(m, f, k)] ≠ 0 then (0, checkC L rs cs [(m, f, k)]) else if k ≠ 1 then (0, 0) else (lostR rs cs cs.length, 0) := by
  unfold lostL
  split
  · rfl
  · rename_i hz
    split
    · rfl
    · have hok := validT_ok (checkC_zero (by simpa using hz)).1
      have h1 := isSetFrom_ge 0 L cs hok.2.2.2.2.2
      have h2 := isSetFrom_asc 0 L cs hok.2.2.2.2.2
      rw [lost_eq rs cs L.toNat ?_ (fun x hx => by have := h1 x hx; omega)]
      rw [List.pairwise_iff_getElem]
      intro i j hi hj hij
      have := h2 i j hij hj
      rw [List.getElem?_eq_getElem hi, List.getElem?_eq_getElem hj] at this
      simpa using this

set_option maxRecDepth 100000 in
set_option maxHeartbeats 4000000 in
theorem rlost_any (L : Int) (ra : Option Addr) (rs : List Int) (rc : Nat) (ca : Option Addr) (cs : List Int) (cc : Nat) (m f k : Int) (w : World) (h : TermAt w L ra rs ca cs) :
  Calls Try.prog 38 #[.agg #[.int .i64 L, .slice ra rs.length rc, .slice ca cs.length cc], .agg #[.int .i64 m, .int .i64 f, .int .i64 k]] w (Int2R w (lostL L rs cs m f k)) := by
  have hB0 := ((Below.refl w.heap.size w).alloc (Nat.le_refl _) (.cells #[.int .i64 L, .slice ra rs.length rc, .slice ca cs.length cc] 24)).alloc (by simp) (.cells #[.int .i64 m, .int .i64 f, .int .i64 k] 26)
  have hA := h.below hB0
  have hlc := h.closed.len
  by_cases hz : checkC L rs cs [(m, f, k)] = 0
  · obtain ⟨hv, hca⟩ := checkC_zero hz
    have hok := validT_ok hv
    have HM := hid (show lostL L rs cs m f k = _ from by rw [lostL_eq, if_neg (by simp [hz])])
    have HZ := hid hz
    have HG := hid (isSetFrom_ge 0 L cs hok.2.2.2.2.2)
    have hlen := hok.2.2.2.2.1
    clear hz hv hca hok
    cases hk : (k == 1) with
    | false =>
      have HM2 := hid (show lostL L rs cs m f k = (0, 0) by rw [HM.out, if_pos (by simpa using hk)])
      clear HM
      go_enter Try.func38, Try.ntmps38
      go_wp2_with fail
      refine (both_any L ra rs rc ca cs cc m f k _ hA).mono ?_
      rintro en w1 ⟨hb, rfl⟩
      have p1 := hB0.trans (hb.mono (by simp; omega))
      have hs1 := hb.size
      simp only [World.size_alloc] at hs1
      obtain ⟨d1, d2⟩ := bcell hb
      simp only [World.size_alloc] at d1 d2
      have a2 : w1.cell? ⟨w.heap.size, 2, none⟩ = some (.slice ca cs.length cc) := by rw [d1 _ _ (by omega)]; go_simp
      have b2 : w1.cell? ⟨w.heap.size + 1, 2, none⟩ = some (.int .i64 k) := by rw [d1 _ _ (by omega)]; go_simp
      clear d1 d2
      rw [HZ.out]
      go_wp2
      go_loop [7, 8] (fun v i => v = .int .i64 0 ∧ i = .int .i64 0) (fun _ _ => 0)
      case atStart => exact ⟨rfl, rfl⟩
      case round =>
        obtain ⟨rfl, rfl⟩ := hrel
        by_cases h0 : 0 < cs.length
        · go_wp2
          go_ret2
          exact ⟨p1, by rw [HM2.out]; rfl⟩
        · obtain h0 : cs.length = 0 := by omega
          have h0' := h0
          rw [h0] at a2
          go_wp2
          go_ret2
          exact ⟨p1, by rw [HM2.out]; rfl⟩
    | true =>
      obtain rfl : k = 1 := by simpa using hk
      have HM2 := hid (show lostL L rs cs m f 1 = (lostR rs cs cs.length, 0) by rw [HM.out, if_neg (by simp)])
      clear HM
      go_enter Try.func38, Try.ntmps38
      go_wp2_with fail
      refine (both_any L ra rs rc ca cs cc m f 1 _ hA).mono ?_
      rintro en w1 ⟨hb, rfl⟩
      have p1 := hB0.trans (hb.mono (by simp; omega))
      have hs1 := hb.size
      simp only [World.size_alloc] at hs1
      obtain ⟨d1, d2⟩ := bcell hb
      simp only [World.size_alloc] at d1 d2
      have a0 : w1.cell? ⟨w.heap.size, 0, none⟩ = some (.int .i64 L) := by rw [d1 _ _ (by omega)]; go_simp
      have a1 : w1.cell? ⟨w.heap.size, 1, none⟩ = some (.slice ra rs.length rc) := by rw [d1 _ _ (by omega)]; go_simp
      have a2 : w1.cell? ⟨w.heap.size, 2, none⟩ = some (.slice ca cs.length cc) := by rw [d1 _ _ (by omega)]; go_simp
      have b2 : w1.cell? ⟨w.heap.size + 1, 2, none⟩ = some (.int .i64 1) := by rw [d1 _ _ (by omega)]; go_simp
      clear d1 d2
      rw [HZ.out]
      go_wp2
      go_loopw [7, 8] (fun v i wr => ∃ j : Nat, j ≤ cs.length ∧ i = .int .i64 j ∧ v = .int .i64 (lostR rs cs j) ∧ Below w1.heap.size w1 wr) (fun _ i _ => cs.length - (intOf i).toNat)
      case atStart => exact ⟨0, Nat.zero_le _, rfl, rfl, Below.refl _ _⟩
      case round =>
        obtain ⟨j, hj, rfl, rfl, hB⟩ := hrel
        have hsz := hB.size
        rw [← hB.cell (by simp; omega)] at a0 a1 a2 b2
        have g0 : w.heap.size < wr.heap.size := by omega
        have hbd := lostR_bd rs cs j
        by_cases hlt : j < cs.length
        · have hT := h.below (p1.trans (hB.mono p1.size))
          rcases hT.closed.at_ with e | ⟨bb, off, rfl, hcell⟩
          · rw [e] at hlt; simp at hlt
          have c0 := hcell j hlt
          have hcb := HG.out (cs[j]?.getD 0) (getD_mem cs j hlt)
          have HR := hid (show lostR rs cs (j + 1) = lostR rs cs j + if memB (cs[j]?.getD 0 % 7) rs then 0 else 1 from rfl)
          clear hcell
          generalize cs[j]?.getD 0 = y at *
          generalize lostR rs cs j = lj at *
          go_wp2
          go_still_tail 6, (by kernel_rfl)
          change wpList _ _ _ _ _ wr.drew
          obtain ⟨wd2, hwd⟩ : ∃ wd2, wr.drew = wd2 := ⟨_, rfl⟩
          have hBd : Below wr.heap.size wr wd2 := by rw [← hwd]; exact (Below.refl _ _).drew
          have hs2 : wd2.heap.size = wr.heap.size := by rw [← hwd]; rfl
          rw [hwd]
          clear hwd
          have hT2 := hT.below hBd
          rw [← hBd.cell (by simp; omega)] at a0 a1 a2 b2
          have p2 := hB.trans (hBd.mono hB.size)
          have g2 : w.heap.size < wd2.heap.size := by omega
          cases hm : memB (y % 7) rs
          all_goals
            go_wp2_with fail
            refine (rweekDay_any _ _ _ _ _ _ _ _ _ hT2 hcb.1).mono ?_
            rintro en w5 ⟨hb5, rfl⟩
            have p5 := p2.trans (hb5.mono p2.size)
            rw [hm]
            go_wp2
            go_roundw
            case rel => exact ⟨j + 1, by omega, by go_num, by rw [HR.out, hm]; simp, p5⟩
            case measure => simp [intOf]; omega
        · obtain rfl : j = cs.length := by omega
          go_wp2
          go_ret2
          exact ⟨p1.trans (hB.mono p1.size), by rw [HM2.out]; rfl⟩
  · have hz' : (checkC L rs cs [(m, f, k)] != 0) = true := by simp [hz]
    have HM := hid (show lostL L rs cs m f k = (0, checkC L rs cs [(m, f, k)]) from by rw [lostL, if_pos hz])
    clear hz
    go_enter Try.func38, Try.ntmps38
    go_wp2_with fail
    refine (both_any L ra rs rc ca cs cc m f k _ hA).mono ?_
    rintro en w1 ⟨hb, rfl⟩
    have p1 := hB0.trans (hb.mono (by simp; omega))
    go_wp2
    go_ret2
    exact ⟨p1, by rw [HM.out]; rfl⟩

end Go.Proofs.Ytijfcifoemndeaa
