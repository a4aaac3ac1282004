/- Together, as the document's own answer has it. -/
import Derived.Test.YtbeocokdmelffaaTogether
import Derived.Test.YtbeocokdmelffaaRefMenu
import Derived.Deep.RegionHeld3
import Derived.Deep.QuietTactic
import Derived.BigQuiet
set_option linter.unusedVariables false
namespace Go.Proofs.Ytbeocokdmelffaa
open Go.RowKit

/-- What the two calls must keep. -/
def TogS (w : World) (L : Int) (ra : Option Addr) (rs : List Int) (rc : Nat) (ca : Option Addr) (cs : List Int) (cc : Nat) (m f k n g e : Int) (w' : World) : Prop :=
  w'.cell? ⟨w.heap.size, 0, none⟩ = some (.int .i64 L) ∧ w'.cell? ⟨w.heap.size, 1, none⟩ = some (.slice ra rs.length rc) ∧ w'.cell? ⟨w.heap.size, 2, none⟩ = some (.slice ca cs.length cc) ∧ w'.cell? ⟨w.heap.size + 1, 0, none⟩ = some (.int .i64 m) ∧ w'.cell? ⟨w.heap.size + 1, 1, none⟩ = some (.int .i64 f) ∧ w'.cell? ⟨w.heap.size + 1, 2, none⟩ = some (.int .i64 k) ∧ w'.cell? ⟨w.heap.size + 1 + 1, 0, none⟩ = some (.int .i64 n) ∧ w'.cell? ⟨w.heap.size + 1 + 1, 1, none⟩ = some (.int .i64 g) ∧ w'.cell? ⟨w.heap.size + 1 + 1, 2, none⟩ = some (.int .i64 e) ∧ Below w.heap.size w w'
theorem TogS.drew {w : World} {L : Int} {ra : Option Addr} {rs : List Int} {rc : Nat} {ca : Option Addr} {cs : List Int} {cc : Nat} {m f k n g e : Int} {w' : World} (h : TogS w L ra rs rc ca cs cc m f k n g e w') : TogS w L ra rs rc ca cs cc m f k n g e w'.drew := by
  obtain ⟨a0, a1, a2, b0, b1, b2, c0, c1, c2, p⟩ := h
  exact ⟨a0, a1, a2, b0, b1, b2, c0, c1, c2, p.drew⟩
theorem TogS.below {w : World} {L : Int} {ra : Option Addr} {rs : List Int} {rc : Nat} {ca : Option Addr} {cs : List Int} {cc : Nat} {m f k n g e : Int} {w' : World} (h : TogS w L ra rs rc ca cs cc m f k n g e w') : Below w.heap.size w w' := h.2.2.2.2.2.2.2.2.2
theorem TogS.keep {w : World} {L : Int} {ra : Option Addr} {rs : List Int} {rc : Nat} {ca : Option Addr} {cs : List Int} {cc : Nat} {m f k n g e : Int} {w' w2 : World} (h : TogS w L ra rs rc ca cs cc m f k n g e w') (hb : Below w'.heap.size w' w2) : TogS w L ra rs rc ca cs cc m f k n g e w2 := by
  obtain ⟨a0, a1, a2, b0, b1, b2, c0, c1, c2, p⟩ := h
  refine ⟨?_, ?_, ?_, ?_, ?_, ?_, ?_, ?_, ?_, p.trans (hb.mono p.size)⟩
  · rw [hb.cell (cell_lt a0)]; exact a0
  · rw [hb.cell (cell_lt a1)]; exact a1
  · rw [hb.cell (cell_lt a2)]; exact a2
  · rw [hb.cell (cell_lt b0)]; exact b0
  · rw [hb.cell (cell_lt b1)]; exact b1
  · rw [hb.cell (cell_lt b2)]; exact b2
  · rw [hb.cell (cell_lt c0)]; exact c0
  · rw [hb.cell (cell_lt c1)]; exact c1
  · rw [hb.cell (cell_lt c2)]; exact c2

theorem rfind_succ (la lb : List Int) (x y : Int) (j q : Nat) : rfind la lb x y j (q + 1) = if la[j]?.getD 0 = x ∧ lb[j]?.getD 0 = y then some (j : Int) else rfind la lb x y (j + 1) q := rfl

set_option maxRecDepth 100000 in
set_option maxHeartbeats 3200000 in
theorem rtog_ok (N : Nat) (hN : N ≤ 1000) (ra : Option Addr) (rs : List Int) (rc : Nat) (ca : Option Addr) (cs : List Int) (cc : Nat) (m f k n g e x y : Int) (w : World) (h : TermAt w (N:Int) ra rs ca cs) (HZ : Hid (checkC N rs cs [(m, f, k)] = 0)) (HV : Hid (validC n g e = 0)) (hx : inB x 0 (m - 1) = true) (hy : inB y 0 (n - 1) = true) (WM : Hid (wrap64 (m - 1) = m - 1)) (WN : Hid (wrap64 (n - 1) = n - 1)) (HCA : Hid (badC m f k = false)) (HCB : Hid (badC n g e = false)) (HlA : Hid ((rst rs cs m k f N).2.length = N)) (HlB : Hid ((rst rs cs n e g N).2.length = N)) (HvA : Hid (∀ z ∈ (rst rs cs m k f N).2, -9223372036854775808 ≤ z ∧ z ≤ 9223372036854775807)) (HvB : Hid (∀ z ∈ (rst rs cs n e g N).2, -9223372036854775808 ≤ z ∧ z ≤ 9223372036854775807)) :
  Calls Try.prog 49 #[.agg #[.int .i64 (N:Int), .slice ra rs.length rc, .slice ca cs.length cc], .agg #[.int .i64 m, .int .i64 f, .int .i64 k], .agg #[.int .i64 n, .int .i64 g, .int .i64 e], .int .i64 x, .int .i64 y] w (TogRes w (togR (rfind (rst rs cs m k f N).2 (rst rs cs n e g N).2 x y 0 N))) := by
  have hB0 := (((Below.refl w.heap.size w).alloc (Nat.le_refl _) (.cells #[.int .i64 (N:Int), .slice ra rs.length rc, .slice ca cs.length cc] 24)).alloc (by simp) (.cells #[.int .i64 m, .int .i64 f, .int .i64 k] 26)).alloc (by simp; omega) (.cells #[.int .i64 n, .int .i64 g, .int .i64 e] 26)
  have hA := h.below hB0
  go_enter Try.func49, Try.ntmps49
  go_wp2_with fail
  refine (both_any (N:Int) ra rs rc ca cs cc m f k _ hA).mono ?_
  rintro en w1 ⟨hb, rfl⟩
  have p1 := hB0.trans (hb.mono (by simp; omega))
  have hs1 := hb.size
  simp only [World.size_alloc] at hs1
  obtain ⟨d1, d2⟩ := bcell hb
  simp only [World.size_alloc] at d1 d2
  have a0 : w1.cell? ⟨w.heap.size, 0, none⟩ = some (.int .i64 (N:Int)) := by rw [d1 _ _ (by omega)]; go_simp
  have a1 : w1.cell? ⟨w.heap.size, 1, none⟩ = some (.slice ra rs.length rc) := by rw [d1 _ _ (by omega)]; go_simp
  have a2 : w1.cell? ⟨w.heap.size, 2, none⟩ = some (.slice ca cs.length cc) := by rw [d1 _ _ (by omega)]; go_simp
  have b0 : w1.cell? ⟨w.heap.size + 1, 0, none⟩ = some (.int .i64 m) := by rw [d1 _ _ (by omega)]; go_simp
  have b1 : w1.cell? ⟨w.heap.size + 1, 1, none⟩ = some (.int .i64 f) := by rw [d1 _ _ (by omega)]; go_simp
  have b2 : w1.cell? ⟨w.heap.size + 1, 2, none⟩ = some (.int .i64 k) := by rw [d1 _ _ (by omega)]; go_simp
  have c0 : w1.cell? ⟨w.heap.size + 1 + 1, 0, none⟩ = some (.int .i64 n) := by rw [d1 _ _ (by omega)]; go_simp
  have c1 : w1.cell? ⟨w.heap.size + 1 + 1, 1, none⟩ = some (.int .i64 g) := by rw [d1 _ _ (by omega)]; go_simp
  have c2 : w1.cell? ⟨w.heap.size + 1 + 1, 2, none⟩ = some (.int .i64 e) := by rw [d1 _ _ (by omega)]; go_simp
  clear d1 d2
  rw [HZ.out]
  go_wp2_with fail
  refine (rvalidateCycle_any _ _ _ _).mono ?_
  rintro en w2 ⟨hb2, rfl⟩
  have p2 := p1.trans (hb2.mono p1.size)
  have hs2 := hb2.size
  rw [← hb2.cell (by simp; omega)] at a0 a1 a2 b0 b1 b2 c0 c1 c2
  rw [HV.out]
  go_wp2_with fail
  refine (within_any _ _ _ _).mono ?_
  rintro en w' ⟨rfl, rfl⟩
  rw [WM.out, hx]
  go_wp2_with fail
  refine (within_any _ _ _ _).mono ?_
  rintro en w' ⟨rfl, rfl⟩
  rw [WN.out, hy]
  have HRa := hid (fun (w' : World) (hb : Below w.heap.size w w') => rmenus_any N ra rs rc ca cs cc m f k w' (h.below hb) hN HCA.out)
  have HRb := hid (fun (w' : World) (hb : Below w.heap.size w w') => rmenus_any N ra rs rc ca cs cc n g e w' (h.below hb) hN HCB.out)
  have S0 := hid (show TogS w N ra rs rc ca cs cc m f k n g e w2 from ⟨a0, a1, a2, b0, b1, b2, c0, c1, c2, p2⟩)
  go_wp2_with fail
  go_region_held3 (fun w' => w'.cell? ⟨w.heap.size, 0, none⟩ = some (.int .i64 (N : Int)) ∧ w'.cell? ⟨w.heap.size, 1, none⟩ = some (.slice ra rs.length rc) ∧ w'.cell? ⟨w.heap.size, 2, none⟩ = some (.slice ca cs.length cc) ∧ w'.cell? ⟨w.heap.size + 1, 0, none⟩ = some (.int .i64 m) ∧ w'.cell? ⟨w.heap.size + 1, 1, none⟩ = some (.int .i64 f) ∧ w'.cell? ⟨w.heap.size + 1, 2, none⟩ = some (.int .i64 k) ∧ w'.cell? ⟨w.heap.size + 1 + 1, 0, none⟩ = some (.int .i64 n) ∧ w'.cell? ⟨w.heap.size + 1 + 1, 1, none⟩ = some (.int .i64 g) ∧ w'.cell? ⟨w.heap.size + 1 + 1, 2, none⟩ = some (.int .i64 e) ∧ Below w.heap.size w w') (first | exact S0.out.drew | exact TogS.keep (by assumption) (by assumption))
    (first | (go_at_call_of 62 (Value.agg #[.int .i64 m, .int .i64 f, .int .i64 k]); refine (HRa.out _ ?_).mono ?_; (exact TogS.below (by assumption)); rintro en w4 ⟨hb4, v4, rfl, hown4⟩) | (go_at_call_of 62 (Value.agg #[.int .i64 n, .int .i64 g, .int .i64 e]); refine (HRb.out _ ?_).mono ?_; (exact TogS.below (by assumption)); rintro en w5 ⟨hb5, v5, rfl, hown5⟩))
  rename w5.cell? _ = _ ∧ _ => hHeld
  clear hB0 hA a0 a1 a2 b0 b1 b2 c0 c1 c2 hb p1 hs1 p2 hs2 hb2 S0 HRa HRb
  obtain ⟨a0, _, _, _, _, _, _, _, _, p5⟩ := hHeld
  have ho4 : Own w5 _ v4 (rst rs cs m k f N).2 := own_below hown4 hb5
  clear hown4 hb5 hb4
  obtain ⟨aa, capa, rfl, hina⟩ := ho4.ints (by rw [HlA.out]; omega) HvA.out
  obtain ⟨ab, capb, rfl, hinb⟩ := hown5.ints (by rw [HlB.out]; omega) HvB.out
  clear ho4 hown5 HvA HvB
  generalize (rst rs cs m k f N).2 = la at *
  generalize (rst rs cs n e g N).2 = lb at *
  go_wp2
  go_loopw [17] (fun i wr => ∃ (j : Nat), j ≤ N ∧ i = .int .i64 j ∧ wr = w5 ∧ Hid (rfind la lb x y 0 N = rfind la lb x y j (N - j))) (fun i _ => N - (intOf i).toNat)
  case atStart => exact ⟨0, Nat.zero_le _, rfl, rfl, rfl⟩
  case round =>
    obtain ⟨j, hj, rfl, rfl, HS⟩ := hrel
    by_cases hlt : j < N
    · have HR := hid (show rfind la lb x y j (N - j) = if la[j]?.getD 0 = x ∧ lb[j]?.getD 0 = y then some (j : Int) else rfind la lb x y (j + 1) (N - (j + 1)) by
        rw [show N - j = (N - (j + 1)) + 1 by omega, rfind_succ])
      rcases hina.at_ with ee | ⟨ba, oa, rfl, hca⟩
      · exfalso; have := HlA.out; rw [ee] at this; simp at this; omega
      rcases hinb.at_ with ee | ⟨bb, ob, rfl, hcb⟩
      · exfalso; have := HlB.out; rw [ee] at this; simp at this; omega
      have ga := hca j (by rw [HlA.out]; exact hlt)
      have gb := hcb j (by rw [HlB.out]; exact hlt)
      have ja : (j : Int) < (la.length : Int) := by rw [HlA.out]; omega
      have jb : (j : Int) < (lb.length : Int) := by rw [HlB.out]; omega
      clear hca hcb hina hinb
      generalize la[j]?.getD 0 = p at *
      generalize lb[j]?.getD 0 = q at *
      cases h1 : (p == x) with
      | false =>
        have HN := hid (show ¬ (p = x ∧ q = y) by simp at h1; exact fun h => h1 h.1)
        go_wp2
        go_roundw
        case rel => exact ⟨j + 1, by omega, by go_num, trivial, by rw [HS.out, HR.out, if_neg HN.out]; rfl⟩
        case measure => simp [intOf]; omega
      | true =>
        cases h2 : (q == y) with
        | false =>
          have HN := hid (show ¬ (p = x ∧ q = y) by simp at h2; exact fun h => h2 h.2)
          go_wp2
          go_roundw
          case rel => exact ⟨j + 1, by omega, by go_num, trivial, by rw [HS.out, HR.out, if_neg HN.out]; rfl⟩
          case measure => simp [intOf]; omega
        | true =>
          have HN := hid (show p = x ∧ q = y by simp at h1 h2; exact ⟨h1, h2⟩)
          go_wp2
          refine bodyPost_ret (v := .tuple #[.int .i64 j, .bool true, .int .i64 0]) (by simp [results, Try.results49, go_sem]) rfl ⟨p5, by rw [HS.out, HR.out, if_pos HN.out]; rfl⟩
    · obtain rfl : j = N := by omega
      go_wp2
      refine bodyPost_ret (v := .tuple #[.int .i64 0, .bool false, .int .i64 0]) (by simp [results, Try.results49, go_sem]) rfl ⟨p5, by rw [HS.out, Nat.sub_self]; rfl⟩

end Go.Proofs.Ytbeocokdmelffaa
