/- The Go function Together of package term. -/
import Derived.Test.YtijfcifoemndeabDaysWith
import Derived.Test.YtijfcifoemndeabTogetherM
import Derived.Test.YtijfcifoemndeabSearch
set_option linter.unusedVariables false
namespace Go.Proofs.Ytijfcifoemndeab
open Go.RowKit

def TogRes (w : World) (p : Int × Bool × Int) (en : Ending) (w' : World) : Prop := Below w.heap.size w w' ∧ en = .returned (.tuple #[.int .i64 p.1, .bool p.2.1, .int .i64 p.2.2])

set_option maxRecDepth 100000 in
set_option maxHeartbeats 4000000 in
theorem together_any (L : Int) (ra : Option Addr) (rs : List Int) (rc : Nat) (ca : Option Addr) (cs : List Int) (cc : Nat) (m f k n g e x y : Int) (w : World) (h : TermAt w L ra rs ca cs) :
  Calls Try.prog 5 #[.agg #[.int .i64 L, .slice ra rs.length rc, .slice ca cs.length cc], .agg #[.int .i64 m, .int .i64 f, .int .i64 k], .agg #[.int .i64 n, .int .i64 g, .int .i64 e], .int .i64 x, .int .i64 y] w (TogRes w (togL L rs cs m f k n g e x y)) := by
  have hB0 := (((Below.refl w.heap.size w).alloc (Nat.le_refl _) (.cells #[.int .i64 L, .slice ra rs.length rc, .slice ca cs.length cc] 28)).alloc (by simp) (.cells #[.int .i64 m, .int .i64 f, .int .i64 k] 23)).alloc (by simp; omega) (.cells #[.int .i64 n, .int .i64 g, .int .i64 e] 23)
  obtain ⟨wc, hwc⟩ : ∃ wc, (((w.alloc (.cells #[.int .i64 L, .slice ra rs.length rc, .slice ca cs.length cc] 28)).alloc (.cells #[.int .i64 m, .int .i64 f, .int .i64 k] 23)).alloc (.cells #[.int .i64 n, .int .i64 g, .int .i64 e] 23)).alloc (.cells #[.int .i64 m, .int .i64 f, .int .i64 k, .int .i64 n, .int .i64 g, .int .i64 e] 23) = wc := ⟨_, rfl⟩
  have q1 : Below w.heap.size w wc := by rw [← hwc]; exact hB0.alloc (by simp; omega) _
  have hsz : wc.heap.size = w.heap.size + 1 + 1 + 1 + 1 := by rw [← hwc]; simp
  have a0 : wc.cell? ⟨w.heap.size, 0, none⟩ = some (.int .i64 L) := by rw [← hwc]; clear hwc; go_simp
  have a1 : wc.cell? ⟨w.heap.size, 1, none⟩ = some (.slice ra rs.length rc) := by rw [← hwc]; clear hwc; go_simp
  have a2 : wc.cell? ⟨w.heap.size, 2, none⟩ = some (.slice ca cs.length cc) := by rw [← hwc]; clear hwc; go_simp
  have b0 : wc.cell? ⟨w.heap.size + 1, 0, none⟩ = some (.int .i64 m) := by rw [← hwc]; clear hwc; go_simp
  have b1 : wc.cell? ⟨w.heap.size + 1, 1, none⟩ = some (.int .i64 f) := by rw [← hwc]; clear hwc; go_simp
  have b2 : wc.cell? ⟨w.heap.size + 1, 2, none⟩ = some (.int .i64 k) := by rw [← hwc]; clear hwc; go_simp
  have c0 : wc.cell? ⟨w.heap.size + 1 + 1, 0, none⟩ = some (.int .i64 n) := by rw [← hwc]; clear hwc; go_simp
  have c1 : wc.cell? ⟨w.heap.size + 1 + 1, 1, none⟩ = some (.int .i64 g) := by rw [← hwc]; clear hwc; go_simp
  have c2 : wc.cell? ⟨w.heap.size + 1 + 1, 2, none⟩ = some (.int .i64 e) := by rw [← hwc]; clear hwc; go_simp
  have hcy : Cycles wc (some ⟨w.heap.size + 1 + 1 + 1, 0, none⟩) [(m, f, k), (n, g, e)] := by
    refine ⟨by simp, .inr ⟨_, _, rfl, fun i hi => ?_⟩⟩
    have : i = 0 ∨ i = 1 := by simp at hi; omega
    rcases this with rfl | rfl <;> (refine ⟨?_, ?_, ?_⟩ <;> (rw [← hwc]; clear hwc; go_simp))
  have HK := hid (check_any L ra rs rc ca cs cc (some ⟨w.heap.size + 1 + 1 + 1, 0, none⟩) [(m, f, k), (n, g, e)] 2 wc (h.below q1) hcy)
  clear hcy
  by_cases hz : checkC L rs cs [(m, f, k), (n, g, e)] = 0
  · have HM := hid (show togL L rs cs m f k n g e x y = _ from by rw [togL, if_neg (by simp [hz])])
    have HZ := hid hz
    clear hz
    cases hx : isMenuB m x with
    | false =>
      have HM2 := hid (show togL L rs cs m f k n g e x y = (0, false, 1) by rw [HM.out, if_pos (.inl hx)])
      go_enter Try.func5, Try.ntmps5
      go_wp2_with fail
      clear hwc
      refine (HK.out).mono ?_
      rintro en w1 ⟨hb, rfl⟩
      have p1 := q1.trans (hb.mono (by omega))
      have hs1 := hb.size
      rw [← hb.cell (by simp; omega)] at a0 a1 a2 b0 b1 b2 c0 c1 c2
      rw [HZ.out]
      go_wp2_with fail
      refine (isMenu_any _ _ _ _ _).mono ?_
      rintro en w2 ⟨hb2, rfl⟩
      rw [hx]
      go_wp2
      refine bodyPost_ret (v := .tuple #[.int .i64 0, .bool false, .int .i64 1]) (by simp [results, Try.results5, go_sem]) rfl ⟨p1.trans (hb2.mono p1.size), by rw [HM2.out]⟩
    | true =>
      cases hy : isMenuB n y with
      | false =>
        have HM2 := hid (show togL L rs cs m f k n g e x y = (0, false, 1) by rw [HM.out, if_pos (.inr hy)])
        go_enter Try.func5, Try.ntmps5
        go_wp2_with fail
        clear hwc
        refine (HK.out).mono ?_
        rintro en w1 ⟨hb, rfl⟩
        have p1 := q1.trans (hb.mono (by omega))
        have hs1 := hb.size
        rw [← hb.cell (by simp; omega)] at a0 a1 a2 b0 b1 b2 c0 c1 c2
        rw [HZ.out]
        go_wp2_with fail
        refine (isMenu_any _ _ _ _ _).mono ?_
        rintro en w2 ⟨hb2, rfl⟩
        rw [hx]
        have p2 := p1.trans (hb2.mono p1.size)
        have hs2 := hb2.size
        rw [← hb2.cell (by simp; omega)] at a0 a1 a2 b0 b1 b2 c0 c1 c2
        go_wp2_with fail
        refine (isMenu_any _ _ _ _ _).mono ?_
        rintro en w3 ⟨hb3, rfl⟩
        rw [hy]
        have p3 := p2.trans (hb3.mono p2.size)
        go_wp2
        refine bodyPost_ret (v := .tuple #[.int .i64 0, .bool false, .int .i64 1]) (by simp [results, Try.results5, go_sem]) rfl ⟨p3, by rw [HM2.out]⟩
      | true =>
        have hv : validT L rs cs = 0 ∧ badC m f k = false ∧ badC n g e = false := by
          have hz := HZ.out
          unfold checkC at hz
          split at hz
          · rename_i hh; exact absurd hz hh
          · rename_i hh
            refine ⟨by simpa using hh, ?_⟩
            cases h1 : badC m f k <;> cases h2 : badC n g e <;> simp [anyBadC, h1, h2] at hz ⊢
        have hL2 := (validT_ok hv.1).2.1
        have HM2 := hid (show togL L rs cs m f k n g e x y = togR (firstIn (dw y (mdays L rs cs n g e)) (dw x (mdays L rs cs m f k))) by rw [HM.out, if_neg (by simp [hx, hy])])
        have hlA : (dw x (mdays L rs cs m f k)).length ≤ L.toNat := Nat.le_trans (dw_len _ _) (mdays_len L rs cs m f k)
        have hlB : (dw y (mdays L rs cs n g e)).length ≤ L.toNat := Nat.le_trans (dw_len _ _) (mdays_len L rs cs n g e)
        have hbd : ∀ (m f k x : Int), ∀ d ∈ dw x (mdays L rs cs m f k), -9223372036854775808 ≤ d ∧ d ≤ 9223372036854775807 := fun m f k x d hd => by
          have h1 : d ∈ sdl (wd rs cs L.toNat) := by
            rw [← mst_fst m k f]
            exact (List.Sublist.map (fun y : Int × Int => y.1) List.filter_sublist).subset hd
          have := (mem_sd rs cs L.toNat d).1 h1
          omega
        have HbA := hid (hbd m f k x)
        have HbB := hid (hbd n g e y)
        have HAs := hid (pairwise_asc _ (dw_pairwise rs cs n e g y L.toNat))
        clear hbd
        go_enter Try.func5, Try.ntmps5
        go_wp2_with fail
        clear hwc
        refine (HK.out).mono ?_
        rintro en w1 ⟨hb, rfl⟩
        have p1 := q1.trans (hb.mono (by omega))
        have hs1 := hb.size
        rw [← hb.cell (by simp; omega)] at a0 a1 a2 b0 b1 b2 c0 c1 c2
        rw [HZ.out]
        go_wp2_with fail
        refine (isMenu_any _ _ _ _ _).mono ?_
        rintro en w2 ⟨hb2, rfl⟩
        rw [hx]
        have p2 := p1.trans (hb2.mono p1.size)
        have hs2 := hb2.size
        rw [← hb2.cell (by simp; omega)] at a0 a1 a2 b0 b1 b2 c0 c1 c2
        go_wp2_with fail
        refine (isMenu_any _ _ _ _ _).mono ?_
        rintro en w3 ⟨hb3, rfl⟩
        rw [hy]
        have p3 := p2.trans (hb3.mono p2.size)
        have hs3 := hb3.size
        rw [← hb3.cell (by simp; omega)] at a0 a1 a2 b0 b1 b2 c0 c1 c2
        go_wp2_with fail
        refine (daysWith_any L ra rs rc ca cs cc n g e y _ (h.below p3) hv.1 hv.2.2).mono ?_
        rintro en w4 ⟨hb4, v4, rfl, ho4⟩
        have p4 := p3.trans (hb4.mono p3.size)
        have hs4 := hb4.size
        rw [← hb4.cell (by simp; omega)] at a0 a1 a2 b0 b1 b2 c0 c1 c2
        obtain ⟨ad4, cap4, rfl, hin4⟩ := ho4.ints (by omega) HbB.out
        go_wp2_with fail
        refine (daysWith_any L ra rs rc ca cs cc m f k x _ (h.below p4) hv.1 hv.2.1).mono ?_
        rintro en w5 ⟨hb5, v5, rfl, ho5⟩
        have p5 := p4.trans (hb5.mono p4.size)
        have hin45 := hin4.below hb5
        obtain ⟨ad5, cap5, rfl, hin5⟩ := ho5.ints (by omega) HbA.out
        clear hin4 ho4 ho5
        generalize dw x (mdays L rs cs m f k) = A at *
        have HAs2 := hid (show Asc (dw y (mdays L rs cs n g e)) from HAs.out)
        generalize dw y (mdays L rs cs n g e) = B at *
        go_wp2
        go_loop [46] (fun i => ∃ j : Nat, j ≤ A.length ∧ i = .int .i64 j ∧ Hid (firstIn B A = firstIn B (A.drop j))) (fun i => A.length - (intOf i).toNat)
        case atStart => exact ⟨0, Nat.zero_le _, rfl, rfl⟩
        case round =>
          obtain ⟨j, hj, rfl, HF⟩ := hrel
          by_cases hlt : j < A.length
          · rcases hin5.at_ with e0 | ⟨bb, off, rfl, hcell⟩
            · rw [e0] at hlt; simp at hlt
            have hcl := hcell j hlt
            have HD := hid (firstIn_drop B A j hlt)
            clear hcell hin5
            generalize A[j]?.getD 0 = d at *
            cases hm : memB d B
            all_goals
              go_wp2_with fail
              refine (bsearch_any _ _ _ _ _ hin45 HAs2.out).mono ?_
              rintro en w6 ⟨rfl, i6, hi6, hbs, rfl⟩
              rw [hm]
              go_wp2
            · go_round
              case rel => exact ⟨j + 1, by omega, by go_num, by unfold Hid; rw [HF.out, HD.out, hm]; simp⟩
              case measure => simp [intOf]; omega
            · refine bodyPost_ret (v := .tuple #[.int .i64 d, .bool true, .int .i64 0]) (by simp [results, Try.results5, go_sem]) rfl ⟨p5, by rw [HM2.out, HF.out, HD.out, hm]; rfl⟩
          · go_wp2
            refine bodyPost_ret (v := .tuple #[.int .i64 0, .bool false, .int .i64 0]) (by simp [results, Try.results5, go_sem]) rfl ⟨p5, by rw [HM2.out, HF.out, List.drop_of_length_le (by omega)]; rfl⟩
  · have hz' : (checkC L rs cs [(m, f, k), (n, g, e)] != 0) = true := by simp [hz]
    have HM := hid (show togL L rs cs m f k n g e x y = (0, false, checkC L rs cs [(m, f, k), (n, g, e)]) by rw [togL, if_pos hz])
    clear hz
    go_enter Try.func5, Try.ntmps5
    go_wp2_with fail
    clear hwc
    refine (HK.out).mono ?_
    rintro en w1 ⟨hb, rfl⟩
    have p1 := q1.trans (hb.mono (by omega))
    have hs1 := hb.size
    rw [← hb.cell (by simp; omega)] at a0 a1 a2 b0 b1 b2 c0 c1 c2
    go_wp2
    refine bodyPost_ret (v := .tuple #[.int .i64 0, .bool false, .int .i64 (checkC L rs cs [(m, f, k), (n, g, e)])]) (by simp [results, Try.results5, go_sem]) rfl ⟨p1, by rw [HM.out]⟩

end Go.Proofs.Ytijfcifoemndeab
