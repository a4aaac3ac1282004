/- Together, as the document's own answer has it: the whole contract. -/
import Derived.Test.YtbeocokdmelffaaRTogOk
set_option linter.unusedVariables false
namespace Go.Proofs.Ytbeocokdmelffaa
open Go.RowKit

theorem checkC_two {L : Int} {rs cs : List Int} {m f k n g e : Int} (hz : ¬ checkC L rs cs [(m, f, k)] = 0) : checkC L rs cs [(m, f, k), (n, g, e)] = checkC L rs cs [(m, f, k)] := by
  by_cases hv : validT L rs cs = 0
  · cases hc : badC m f k with
    | true => simp [checkC, anyBadC, hc, hv]
    | false => exact absurd (by simp [checkC, anyBadC, hc, hv]) hz
  · simp [checkC, hv]

set_option maxRecDepth 100000 in
set_option maxHeartbeats 1600000 in
theorem rtogether_any (L : Int) (ra : Option Addr) (rs : List Int) (rc : Nat) (ca : Option Addr) (cs : List Int) (cc : Nat) (m f k n g e x y : Int) (w : World) (h : TermAt w L ra rs ca cs) :
  Calls Try.prog 49 #[.agg #[.int .i64 L, .slice ra rs.length rc, .slice ca cs.length cc], .agg #[.int .i64 m, .int .i64 f, .int .i64 k], .agg #[.int .i64 n, .int .i64 g, .int .i64 e], .int .i64 x, .int .i64 y] w (TogRes w (togL L rs cs m f k n g e x y)) := by
  have hB0 := (((Below.refl w.heap.size w).alloc (Nat.le_refl _) (.cells #[.int .i64 L, .slice ra rs.length rc, .slice ca cs.length cc] 24)).alloc (by simp) (.cells #[.int .i64 m, .int .i64 f, .int .i64 k] 26)).alloc (by simp; omega) (.cells #[.int .i64 n, .int .i64 g, .int .i64 e] 26)
  have hA := h.below hB0
  by_cases hz : checkC L rs cs [(m, f, k)] = 0
  · obtain ⟨hv, hca⟩ := checkC_zero hz
    have HZ := hid hz
    clear hz
    cases hcb : badC n g e with
    | true =>
      have HV := hid (show validC n g e = 1 by rw [validC, hcb]; rfl)
      have HM := hid (show togL L rs cs m f k n g e x y = (0, false, 1) by
        have : checkC L rs cs [(m, f, k), (n, g, e)] = 1 := by rw [checkC, if_neg (by simp [hv])]; simp [anyBadC, hca, hcb]
        rw [togL, this, if_pos (by omega)])
      go_enter Try.func49, Try.ntmps49
      go_wp2_with fail
      refine (both_any L ra rs rc ca cs cc m f k _ hA).mono ?_
      rintro en w1 ⟨hb, rfl⟩
      have p1 := hB0.trans (hb.mono (by simp; omega))
      have hs1 := hb.size
      simp only [World.size_alloc] at hs1
      obtain ⟨d1, d2⟩ := bcell hb
      simp only [World.size_alloc] at d1 d2
      have a0 : w1.cell? ⟨w.heap.size, 0, none⟩ = some (.int .i64 L) := by rw [d1 _ _ (by omega)]; go_simp
      have a1 : w1.cell? ⟨w.heap.size, 1, none⟩ = some (.slice ra rs.length rc) := by rw [d1 _ _ (by omega)]; go_simp
      have a2 : w1.cell? ⟨w.heap.size, 2, none⟩ = some (.slice ca cs.length cc) := by rw [d1 _ _ (by omega)]; go_simp
      have b0 : w1.cell? ⟨w.heap.size + 1, 0, none⟩ = some (.int .i64 m) := by rw [d1 _ _ (by omega)]; go_simp
      have b1 : w1.cell? ⟨w.heap.size + 1, 1, none⟩ = some (.int .i64 f) := by rw [d1 _ _ (by omega)]; go_simp
      have b2 : w1.cell? ⟨w.heap.size + 1, 2, none⟩ = some (.int .i64 k) := by rw [d1 _ _ (by omega)]; go_simp
      have c0 : w1.cell? ⟨w.heap.size + 1 + 1, 0, none⟩ = some (.int .i64 n) := by rw [d1 _ _ (by omega)]; go_simp
      have c1 : w1.cell? ⟨w.heap.size + 1 + 1, 1, none⟩ = some (.int .i64 g) := by rw [d1 _ _ (by omega)]; go_simp
      have c2 : w1.cell? ⟨w.heap.size + 1 + 1, 2, none⟩ = some (.int .i64 e) := by rw [d1 _ _ (by omega)]; go_simp
      clear d1 d2
      rw [HZ.out]
      go_wp2_with fail
      refine (rvalidateCycle_any _ _ _ _).mono ?_
      rintro en w2 ⟨hb2, rfl⟩
      have p2 := p1.trans (hb2.mono p1.size)
      have hs2 := hb2.size
      rw [← hb2.cell (by simp; omega)] at a0 a1 a2 b0 b1 b2 c0 c1 c2
      rw [HV.out]
      go_wp2
      refine bodyPost_ret (v := .tuple #[.int .i64 0, .bool false, .int .i64 1]) (by simp [results, Try.results49, go_sem]) rfl ⟨p2, by rw [HM.out]⟩
    | false =>
      have HV := hid (show validC n g e = 0 by rw [validC, hcb]; rfl)
      have hC2 : checkC L rs cs [(m, f, k), (n, g, e)] = 0 := by rw [checkC, if_neg (by simp [hv])]; simp [anyBadC, hca, hcb]
      have hma := validC_ok hca
      have hmb := validC_ok hcb
      have WM := hid (show wrap64 (m - 1) = m - 1 by have := hma.1; have := hma.2.1; unfold wrap64; omega)
      have WN := hid (show wrap64 (n - 1) = n - 1 by have := hmb.1; have := hmb.2.1; unfold wrap64; omega)
      cases hx : inB x 0 (m - 1) with
      | false =>
        have HM := hid (show togL L rs cs m f k n g e x y = (0, false, 1) by
          have : isMenuB m x = false := by simp [inB] at hx; simp [isMenuB]; omega
          rw [togL, if_neg (by simp [hC2]), if_pos (.inl this)])
        go_enter Try.func49, Try.ntmps49
        go_wp2_with fail
        refine (both_any L ra rs rc ca cs cc m f k _ hA).mono ?_
        rintro en w1 ⟨hb, rfl⟩
        have p1 := hB0.trans (hb.mono (by simp; omega))
        have hs1 := hb.size
        simp only [World.size_alloc] at hs1
        obtain ⟨d1, d2⟩ := bcell hb
        simp only [World.size_alloc] at d1 d2
        have a0 : w1.cell? ⟨w.heap.size, 0, none⟩ = some (.int .i64 L) := by rw [d1 _ _ (by omega)]; go_simp
        have a1 : w1.cell? ⟨w.heap.size, 1, none⟩ = some (.slice ra rs.length rc) := by rw [d1 _ _ (by omega)]; go_simp
        have a2 : w1.cell? ⟨w.heap.size, 2, none⟩ = some (.slice ca cs.length cc) := by rw [d1 _ _ (by omega)]; go_simp
        have b0 : w1.cell? ⟨w.heap.size + 1, 0, none⟩ = some (.int .i64 m) := by rw [d1 _ _ (by omega)]; go_simp
        have b1 : w1.cell? ⟨w.heap.size + 1, 1, none⟩ = some (.int .i64 f) := by rw [d1 _ _ (by omega)]; go_simp
        have b2 : w1.cell? ⟨w.heap.size + 1, 2, none⟩ = some (.int .i64 k) := by rw [d1 _ _ (by omega)]; go_simp
        have c0 : w1.cell? ⟨w.heap.size + 1 + 1, 0, none⟩ = some (.int .i64 n) := by rw [d1 _ _ (by omega)]; go_simp
        have c1 : w1.cell? ⟨w.heap.size + 1 + 1, 1, none⟩ = some (.int .i64 g) := by rw [d1 _ _ (by omega)]; go_simp
        have c2 : w1.cell? ⟨w.heap.size + 1 + 1, 2, none⟩ = some (.int .i64 e) := by rw [d1 _ _ (by omega)]; go_simp
        clear d1 d2
        rw [HZ.out]
        go_wp2_with fail
        refine (rvalidateCycle_any _ _ _ _).mono ?_
        rintro en w2 ⟨hb2, rfl⟩
        have p2 := p1.trans (hb2.mono p1.size)
        have hs2 := hb2.size
        rw [← hb2.cell (by simp; omega)] at a0 a1 a2 b0 b1 b2 c0 c1 c2
        rw [HV.out]
        go_wp2_with fail
        refine (within_any _ _ _ _).mono ?_
        rintro en w' ⟨rfl, rfl⟩
        first | rw [WM.out, hx] | rw [hx]
        go_wp2
        refine bodyPost_ret (v := .tuple #[.int .i64 0, .bool false, .int .i64 1]) (by simp [results, Try.results49, go_sem]) rfl ⟨p2, by rw [HM.out]⟩
      | true =>
        cases hy : inB y 0 (n - 1) with
        | false =>
          have HM := hid (show togL L rs cs m f k n g e x y = (0, false, 1) by
            have : isMenuB n y = false := by simp [inB] at hy; simp [isMenuB]; omega
            rw [togL, if_neg (by simp [hC2]), if_pos (.inr this)])
          go_enter Try.func49, Try.ntmps49
          go_wp2_with fail
          refine (both_any L ra rs rc ca cs cc m f k _ hA).mono ?_
          rintro en w1 ⟨hb, rfl⟩
          have p1 := hB0.trans (hb.mono (by simp; omega))
          have hs1 := hb.size
          simp only [World.size_alloc] at hs1
          obtain ⟨d1, d2⟩ := bcell hb
          simp only [World.size_alloc] at d1 d2
          have a0 : w1.cell? ⟨w.heap.size, 0, none⟩ = some (.int .i64 L) := by rw [d1 _ _ (by omega)]; go_simp
          have a1 : w1.cell? ⟨w.heap.size, 1, none⟩ = some (.slice ra rs.length rc) := by rw [d1 _ _ (by omega)]; go_simp
          have a2 : w1.cell? ⟨w.heap.size, 2, none⟩ = some (.slice ca cs.length cc) := by rw [d1 _ _ (by omega)]; go_simp
          have b0 : w1.cell? ⟨w.heap.size + 1, 0, none⟩ = some (.int .i64 m) := by rw [d1 _ _ (by omega)]; go_simp
          have b1 : w1.cell? ⟨w.heap.size + 1, 1, none⟩ = some (.int .i64 f) := by rw [d1 _ _ (by omega)]; go_simp
          have b2 : w1.cell? ⟨w.heap.size + 1, 2, none⟩ = some (.int .i64 k) := by rw [d1 _ _ (by omega)]; go_simp
          have c0 : w1.cell? ⟨w.heap.size + 1 + 1, 0, none⟩ = some (.int .i64 n) := by rw [d1 _ _ (by omega)]; go_simp
          have c1 : w1.cell? ⟨w.heap.size + 1 + 1, 1, none⟩ = some (.int .i64 g) := by rw [d1 _ _ (by omega)]; go_simp
          have c2 : w1.cell? ⟨w.heap.size + 1 + 1, 2, none⟩ = some (.int .i64 e) := by rw [d1 _ _ (by omega)]; go_simp
          clear d1 d2
          rw [HZ.out]
          go_wp2_with fail
          refine (rvalidateCycle_any _ _ _ _).mono ?_
          rintro en w2 ⟨hb2, rfl⟩
          have p2 := p1.trans (hb2.mono p1.size)
          have hs2 := hb2.size
          rw [← hb2.cell (by simp; omega)] at a0 a1 a2 b0 b1 b2 c0 c1 c2
          rw [HV.out]
          go_wp2_with fail
          refine (within_any _ _ _ _).mono ?_
          rintro en w' ⟨rfl, rfl⟩
          first | rw [WM.out, hx] | rw [hx]
          go_wp2_with fail
          refine (within_any _ _ _ _).mono ?_
          rintro en w' ⟨rfl, rfl⟩
          first | rw [WN.out, hy] | rw [hy]
          go_wp2
          refine bodyPost_ret (v := .tuple #[.int .i64 0, .bool false, .int .i64 1]) (by simp [results, Try.results49, go_sem]) rfl ⟨p2, by rw [HM.out]⟩
        | true =>
          have hvt := validT_ok hv
          have hL2 := hvt.2.1
          obtain ⟨N, rfl⟩ : ∃ N : Nat, L = N := ⟨L.toNat, by omega⟩
          have hN : N ≤ 1000 := by omega
          have HM := hid (show togL N rs cs m f k n g e x y = togR (rfind (rst rs cs m k f N).2 (rst rs cs n e g N).2 x y 0 N) by
            have i1 : isMenuB m x = true := by simp [inB] at hx; simp [isMenuB]; omega
            have i2 : isMenuB n y = true := by simp [inB] at hy; simp [isMenuB]; omega
            rw [togL, if_neg (by simp [hC2]), if_neg (by simp [i1, i2]), mdays, mdays, Int.toNat_natCast,
              together_eq rs cs m f k n g e x y N hma.2.2.2.2 hmb.2.2.2.2 (by simp [inB] at hx; omega) (by simp [inB] at hy; omega)])
          have HlA := hid (rst_len rs cs m k f N)
          have HlB := hid (rst_len rs cs n e g N)
          have HvA := hid (rst_vals rs cs m k f hma.1 hma.2.1 hma.2.2.1 hma.2.2.2.1 N)
          have HvB := hid (rst_vals rs cs n e g hmb.1 hmb.2.1 hmb.2.2.1 hmb.2.2.2.1 N)
          have HCA := hid hca
          have HCB := hid hcb
          rw [HM.out]
          exact rtog_ok N hN ra rs rc ca cs cc m f k n g e x y w h HZ HV hx hy WM WN HCA HCB HlA HlB HvA HvB
  · have hz' : (checkC L rs cs [(m, f, k)] != 0) = true := by simp [hz]
    have HM := hid (show togL L rs cs m f k n g e x y = (0, false, checkC L rs cs [(m, f, k)]) by
      have := checkC_two (n := n) (g := g) (e := e) hz
      rw [togL, this, if_pos hz])
    clear hz
    go_enter Try.func49, Try.ntmps49
    go_wp2_with fail
    refine (both_any L ra rs rc ca cs cc m f k _ hA).mono ?_
    rintro en w1 ⟨hb, rfl⟩
    have p1 := hB0.trans (hb.mono (by simp; omega))
    have hs1 := hb.size
    simp only [World.size_alloc] at hs1
    obtain ⟨d1, d2⟩ := bcell hb
    simp only [World.size_alloc] at d1 d2
    have a0 : w1.cell? ⟨w.heap.size, 0, none⟩ = some (.int .i64 L) := by rw [d1 _ _ (by omega)]; go_simp
    have a1 : w1.cell? ⟨w.heap.size, 1, none⟩ = some (.slice ra rs.length rc) := by rw [d1 _ _ (by omega)]; go_simp
    have a2 : w1.cell? ⟨w.heap.size, 2, none⟩ = some (.slice ca cs.length cc) := by rw [d1 _ _ (by omega)]; go_simp
    have b0 : w1.cell? ⟨w.heap.size + 1, 0, none⟩ = some (.int .i64 m) := by rw [d1 _ _ (by omega)]; go_simp
    have b1 : w1.cell? ⟨w.heap.size + 1, 1, none⟩ = some (.int .i64 f) := by rw [d1 _ _ (by omega)]; go_simp
    have b2 : w1.cell? ⟨w.heap.size + 1, 2, none⟩ = some (.int .i64 k) := by rw [d1 _ _ (by omega)]; go_simp
    have c0 : w1.cell? ⟨w.heap.size + 1 + 1, 0, none⟩ = some (.int .i64 n) := by rw [d1 _ _ (by omega)]; go_simp
    have c1 : w1.cell? ⟨w.heap.size + 1 + 1, 1, none⟩ = some (.int .i64 g) := by rw [d1 _ _ (by omega)]; go_simp
    have c2 : w1.cell? ⟨w.heap.size + 1 + 1, 2, none⟩ = some (.int .i64 e) := by rw [d1 _ _ (by omega)]; go_simp
    clear d1 d2
    go_wp2
    refine bodyPost_ret (v := .tuple #[.int .i64 0, .bool false, .int .i64 (checkC L rs cs [(m, f, k)])]) (by simp [results, Try.results49, go_sem]) rfl ⟨p1, by rw [HM.out]⟩

end Go.Proofs.Ytbeocokdmelffaa
