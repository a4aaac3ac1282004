/- The law TermMeets: its walk. -/
import Derived.Test.YtijfcifoemndeabTogether
import Derived.Test.YtijfcifoemndeabKnown
import Derived.Test.YtijfcifoemndeabMeetsM
set_option linter.unusedVariables false
namespace Go.Proofs.Ytijfcifoemndeab
open Go.RowKit

theorem togR_snd (o : Option Int) : (togR o).2.2 = 0 := by cases o <;> rfl
theorem meets_law (L m f n g x y : Int) (hL : L = 1000) (h : (togL L [] [] m f 1 n g 1 x y).2.2 = 0) :
    (1 ≤ m ∧ m ≤ 40 ∧ 0 ≤ f ∧ f < m ∧ 1 ≤ n ∧ n ≤ 40 ∧ 0 ≤ g ∧ g < n ∧ 0 ≤ x ∧ x < m ∧ 0 ≤ y ∧ y < n) ∧ (solveL [(x - f, m), (y - g, n)]).2.2.2 = 0 ∧
    (togL L [] [] m f 1 n g 1 x y).2.1 = ((solveL [(x - f, m), (y - g, n)]).2.2.1 && decide ((solveL [(x - f, m), (y - g, n)]).1 < L)) ∧
    ((togL L [] [] m f 1 n g 1 x y).2.1 = true → (togL L [] [] m f 1 n g 1 x y).1 = (solveL [(x - f, m), (y - g, n)]).1) := by
  unfold togL at h ⊢
  split at h
  · rename_i hz; exact absurd h hz
  · rename_i hz
    rw [if_neg hz]
    split at h
    · simp at h
    · rename_i hx
      rw [if_neg hx]
      have hv : validT L [] [] = 0 ∧ badC m f 1 = false ∧ badC n g 1 = false := by
        have hz := hz
        unfold checkC at hz
        split at hz
        · rename_i hh; exact absurd hh (by simpa using hz)
        · rename_i hh
          refine ⟨by simpa using hh, ?_⟩
          cases h1 : badC m f 1 <;> cases h2 : badC n g 1 <;> simp [anyBadC, h1, h2] at hz ⊢
      have ha := validC_ok hv.2.1
      have hb := validC_ok hv.2.2
      have hx1 : 0 ≤ x ∧ x < m := by
        cases hh : isMenuB m x with
        | true => simpa [isMenuB] using hh
        | false => exact absurd (.inl hh) hx
      have hy1 : 0 ≤ y ∧ y < n := by
        cases hh : isMenuB n y with
        | true => simpa [isMenuB] using hh
        | false => exact absurd (.inr hh) hx
      refine ⟨⟨ha.1, ha.2.1, ha.2.2.1, ha.2.2.2.1, hb.1, hb.2.1, hb.2.2.1, hb.2.2.2.1, hx1.1, hx1.2, hy1.1, hy1.2⟩, ?_⟩
      unfold mdays
      rw [together_eq [] [] m f 1 n g 1 x y L.toNat (.inr rfl) (.inr rfl) hx1.1 hy1.1]
      have hm := meets L.toNat m f n g x y ha.1 ha.2.1 ha.2.2.1 ha.2.2.2.1 hb.1 hb.2.1 hb.2.2.1 hb.2.2.2.1 hx1.1 hx1.2 hy1.1 hy1.2
      refine ⟨hm.1, ?_⟩
      have hm2 := hm.2
      cases hr : rfind (rst [] [] m 1 f L.toNat).2 (rst [] [] n 1 g L.toNat).2 x y 0 L.toNat with
      | none =>
        rw [hr] at hm2
        simp only at hm2
        refine ⟨?_, fun hh => by simp [togR] at hh⟩
        rw [togR]
        cases h3 : (solveL [(x - f, m), (y - g, n)]).2.2.1 with
        | false => rfl
        | true =>
          rw [h3] at hm2
          simp only [true_and] at hm2
          simp; omega
      | some d =>
        rw [hr] at hm2
        simp only at hm2
        obtain ⟨e1, e2, e3⟩ := hm2
        rw [togR, e1, e2]
        refine ⟨?_, fun _ => rfl⟩
        simp; omega

set_option maxRecDepth 100000 in
set_option maxHeartbeats 4000000 in
theorem meets_walk (m f c n g e x y : Int) (w : World) (bx : -9223372036854775808 ≤ x ∧ x ≤ 9223372036854775807) (by_ : -9223372036854775808 ≤ y ∧ y ≤ 9223372036854775807) :
  Calls Try.prog 3 #[.agg #[.int .i64 m, .int .i64 f, .int .i64 c], .agg #[.int .i64 n, .int .i64 g, .int .i64 e], .agg #[.int .i64 x, .int .i64 y]] w (BoolR w true) := by
  go_enter Try.func3, Try.ntmps3
  go_wp2_with fail
  obtain ⟨wc, hwc⟩ : ∃ wc, (((w.alloc (.cells #[.int .i64 m, .int .i64 f, .int .i64 1] 23)).alloc (.cells #[.int .i64 n, .int .i64 g, .int .i64 1] 23)).alloc (.cells #[.int .i64 x, .int .i64 y] 25)).alloc (.cells #[.int .i64 1000, .slice none 0 0, .slice none 0 0] 28) = wc := ⟨_, rfl⟩
  have q1 : Below w.heap.size w wc := by
    rw [← hwc]
    repeat (first | exact Below.refl _ _ | refine Below.alloc ?_ (by simp <;> omega) _)
  have hsz : wc.heap.size = w.heap.size + 1 + 1 + 1 + 1 := by rw [← hwc]; simp
  have a0 : wc.cell? ⟨w.heap.size, 0, none⟩ = some (.int .i64 m) := by rw [← hwc]; clear hwc; go_simp
  have a1 : wc.cell? ⟨w.heap.size, 1, none⟩ = some (.int .i64 f) := by rw [← hwc]; clear hwc; go_simp
  have b0 : wc.cell? ⟨w.heap.size + 1, 0, none⟩ = some (.int .i64 n) := by rw [← hwc]; clear hwc; go_simp
  have b1 : wc.cell? ⟨w.heap.size + 1, 1, none⟩ = some (.int .i64 g) := by rw [← hwc]; clear hwc; go_simp
  have c0 : wc.cell? ⟨w.heap.size + 1 + 1, 0, none⟩ = some (.int .i64 x) := by rw [← hwc]; clear hwc; go_simp
  have c1 : wc.cell? ⟨w.heap.size + 1 + 1, 1, none⟩ = some (.int .i64 y) := by rw [← hwc]; clear hwc; go_simp
  rw [hwc]
  clear hwc
  have hT : TermAt wc 1000 none [] none [] := ⟨⟨by simp, .inl rfl, by simp⟩, ⟨by simp, .inl rfl, by simp⟩, by omega, by omega⟩
  have H := together_any 1000 none [] 0 none [] 0 m f 1 n g 1 x y wc hT
  simp only [List.length_nil] at H
  have HL := hid (meets_law 1000 m f n g x y rfl)
  refine H.mono ?_
  clear H
  rintro en w1 ⟨hb, rfl⟩
  have p1 := q1.trans (hb.mono (by omega))
  have hs1 := hb.size
  rw [← hb.cell (by simp; omega)] at a0 a1 b0 b1 c0 c1
  have g0 : w.heap.size < w1.heap.size := by omega
  have g1 : w.heap.size + 1 < w1.heap.size := by omega
  have g2 : w.heap.size + 1 + 1 < w1.heap.size := by omega
  generalize togL 1000 [] [] m f 1 n g 1 x y = T at *
  obtain ⟨d, ok, er⟩ := T
  simp only at *
  by_cases he : er = 0
  · subst he
    obtain ⟨⟨m1, m2, f1, f2, n1, n2, g3, g4, x1, x2, y1, y2⟩, h1, h2, h3⟩ := HL.out rfl
    have H2 := hid h2
    have H3 := hid h3
    clear h2 h3 HL
    rcases hS : solveL [(x - f, m), (y - g, n)] with ⟨sm, sk, is, se⟩
    rw [hS] at h1 H2 H3
    replace h1 : se = 0 := h1
    subst h1
    have HS := hid hS
    clear hS
    go_wp2_with fail
    have hLn : Lines (w1.alloc (.cells #[.int .i64 (x - f), .int .i64 m, .int .i64 (y - g), .int .i64 n] 36)) (some ⟨w1.heap.size, 0, none⟩) [(x - f, m), (y - g, n)] := by
      refine ⟨by simp, .inr ⟨_, _, rfl, fun i hi => ?_⟩, ?_⟩
      · have : i = 0 ∨ i = 1 := by simp at hi; omega
        rcases this with rfl | rfl <;> (constructor <;> go_simp)
      · intro l hl
        simp at hl
        rcases hl with rfl | rfl
        · exact ⟨by dsimp only; omega, by dsimp only; omega⟩
        · exact ⟨by dsimp only; omega, by dsimp only; omega⟩
    have H := solve_any (some ⟨w1.heap.size, 0, none⟩) [(x - f, m), (y - g, n)] 2 _ hLn
    simp only [List.length_cons, List.length_nil, Nat.zero_add, Nat.reduceAdd] at H
    rw [HS.out] at H
    refine H.mono ?_
    clear H hLn HS
    rintro en w2 ⟨hb2, rfl⟩
    have p2 := (p1.alloc p1.size _).trans (hb2.mono (by have := p1.size; simp; omega))
    cases is with
    | false =>
      obtain rfl : ok = false := by rw [H2.out]; rfl
      clear H2 H3
      go_wp2_with fail
      refine (known_any _).mono ?_
      rintro en w3 ⟨q3, rfl⟩
      go_wp2
      go_ret
      exact ⟨p2.trans (q3.mono p2.size), rfl⟩
    | true =>
      by_cases hsm : sm < 1000
      · obtain rfl : ok = true := by rw [H2.out]; simp [hsm]
        obtain rfl : d = sm := H3.out rfl
        clear H2 H3
        go_wp2_with fail
        refine (known_any _).mono ?_
        rintro en w3 ⟨q3, rfl⟩
        go_wp2
        go_ret
        exact ⟨p2.trans (q3.mono p2.size), rfl⟩
      · obtain rfl : ok = false := by rw [H2.out]; simp; omega
        have hsm2 : decide (sm < 1000) = false := by simpa using hsm
        clear H2 H3 hsm
        go_wp2_with fail
        refine (known_any _).mono ?_
        rintro en w3 ⟨q3, rfl⟩
        go_wp2
        go_ret
        exact ⟨p2.trans (q3.mono p2.size), rfl⟩
  · have he' : (er != 0) = true := by simp [he]
    clear he
    go_wp2_with fail
    refine (known_any _).mono ?_
    rintro en w3 ⟨q3, rfl⟩
    go_wp2
    go_ret
    exact ⟨p1.trans (q3.mono p1.size), rfl⟩

end Go.Proofs.Ytijfcifoemndeab
