/- Two cycles that run on meet where remainders tell: plain functions. -/
import Derived.Test.YtijfcifoemndeabSolvesAllM
import Derived.Test.YtijfcifoemndeabTogetherM
set_option linter.unusedVariables false
namespace Go.Proofs.Ytijfcifoemndeab

theorem rst_runs (m f : Int) (hm : 1 ≤ m) (h0 : 0 ≤ f) (h1 : f < m) (n : Nat) :
    (rst [] [] m 1 f n).1 = (f + n) % m ∧ ∀ i : Nat, i < n → (rst [] [] m 1 f n).2[i]?.getD 0 = (f + i) % m := by
  induction n with
  | zero => exact ⟨by rw [rst]; simp [Int.emod_eq_of_lt h0 h1], fun i hi => by omega⟩
  | succ n ih =>
    have hl := rst_len [] [] m 1 f n
    refine ⟨?_, fun i hi => ?_⟩
    · rw [rst, rstep]
      simp [memB, ih.1]
      congr 1
      omega
    · rw [rst, rstep]
      dsimp only
      rcases Nat.lt_or_ge i n with h | h
      · rw [List.getElem?_append_left (by omega)]; exact ih.2 i h
      · obtain rfl : i = n := by omega
        rw [List.getElem?_append_right (by omega), hl]
        simp [openB, memB, ih.1]
theorem checkL_two (p q m n : Int) (hm : 1 ≤ m) (hm2 : m ≤ 40) (hn : 1 ≤ n) (hn2 : n ≤ 40) : checkL [(p, m), (q, n)] = 0 := by
  have hb : anyBad [(p, m), (q, n)] = false := by simp [anyBad, badModulus]; omega
  unfold checkL
  rw [if_neg (by simp), if_neg (by simp [hb])]
  have p1 := part_bd 1 m (by omega) hm
  have p2 := part_bd (1 * (m / (egcd 1 m 1 0).1)) n (by omega) hn
  have hmul := mul_bd (1 * (m / (egcd 1 m 1 0).1)) (n / (egcd (1 * (m / (egcd 1 m 1 0).1)) n 1 0).1) 40 40 (by omega) (by omega) (by omega) (by omega)
  rw [lcmTo, if_neg (by dsimp only; omega), lcmTo, if_neg (by dsimp only; omega), lcmTo]
theorem emod_iff_dvd (f x m i : Int) (h0 : 0 ≤ x) (h1 : x < m) : (f + i) % m = x ↔ m ∣ i - (x - f) := by
  constructor
  · intro e
    have := sub_emod_dvd (f + i) m
    rw [e] at this
    rwa [show f + i - x = i - (x - f) by omega] at this
  · intro h
    rw [emod_eq_of_dvd (f + i) x m (by rwa [show f + i - x = i - (x - f) by omega])]
    exact Int.emod_eq_of_lt h0 h1

theorem meets (N : Nat) (m f n g x y : Int) (hm : 1 ≤ m) (hm2 : m ≤ 40) (hf : 0 ≤ f) (hf2 : f < m) (hn : 1 ≤ n) (hn2 : n ≤ 40) (hg : 0 ≤ g) (hg2 : g < n) (hx : 0 ≤ x) (hx2 : x < m) (hy : 0 ≤ y) (hy2 : y < n) :
    (solveL [(x - f, m), (y - g, n)]).2.2.2 = 0 ∧
    match rfind (rst [] [] m 1 f N).2 (rst [] [] n 1 g N).2 x y 0 N with
    | some d => (solveL [(x - f, m), (y - g, n)]).2.2.1 = true ∧ (solveL [(x - f, m), (y - g, n)]).1 = d ∧ d < N
    | none => ¬ ((solveL [(x - f, m), (y - g, n)]).2.2.1 = true ∧ (solveL [(x - f, m), (y - g, n)]).1 < N) := by
  have hz := checkL_two (x - f) (y - g) m n hm hm2 hn hn2
  obtain ⟨z1, z2, z3⟩ := checkL_zero _ hz
  have e0 : solveL [(x - f, m), (y - g, n)] = ((solveFrom 0 1 [(x - f, m), (y - g, n)]).1, (solveFrom 0 1 [(x - f, m), (y - g, n)]).2.1, (solveFrom 0 1 [(x - f, m), (y - g, n)]).2.2, 0) := by
    unfold solveL; rw [if_neg (by simp [hz])]
  refine ⟨by rw [e0], ?_⟩
  rw [e0]
  dsimp only
  have hA := (rst_runs m f hm hf hf2 N).2
  have hB := (rst_runs n g hn hg hg2 N).2
  have hY := solveFrom_yes [(x - f, m), (y - g, n)] z2 0 1 (by omega) (by omega) (by omega)
  have hO := fun num h => solveFrom_own [(x - f, m), (y - g, n)] z2 num 0 1 (by omega) (by omega) (by omega) ⟨num, by omega⟩ h
  generalize solveFrom 0 1 [(x - f, m), (y - g, n)] = R at *
  have hpt : ∀ i : Nat, i < N → (((rst [] [] m 1 f N).2[i]?.getD 0 = x ∧ (rst [] [] n 1 g N).2[i]?.getD 0 = y) ↔ (m ∣ (i : Int) - (x - f) ∧ n ∣ (i : Int) - (y - g))) := by
    intro i hi
    rw [hA i hi, hB i hi, emod_iff_dvd f x m i hx hx2, emod_iff_dvd g y n i hy hy2]
  obtain ⟨r1, r2⟩ := rfind_spec (rst [] [] m 1 f N).2 (rst [] [] n 1 g N).2 x y N 0
  cases hr : rfind (rst [] [] m 1 f N).2 (rst [] [] n 1 g N).2 x y 0 N with
  | none =>
    dsimp only
    rintro ⟨h1, h2⟩
    obtain ⟨y1, y2, _, _, y5⟩ := hY h1
    have a1 := (y5 (x - f, m) (by simp)).2
    have a2 := (y5 (y - g, n) (by simp)).2
    obtain ⟨i, hi⟩ := Int.eq_ofNat_of_zero_le y1
    rw [hi] at a1 a2 h2
    exact r2 hr i (by omega) (by omega) ((hpt i (by omega)).2 ⟨a1, a2⟩)
  | some d =>
    dsimp only
    obtain ⟨i, rfl, _, hi, c1, c2, c3⟩ := r1 d hr
    obtain ⟨d1, d2⟩ := (hpt i (by omega)).1 ⟨c1, c2⟩
    obtain ⟨o1, o2⟩ := hO i (by
      intro l hl
      simp at hl
      rcases hl with rfl | rfl
      · exact d1
      · exact d2)
    obtain ⟨y1, y2, _, _, y5⟩ := hY o1
    refine ⟨o1, ?_, by omega⟩
    have a1 := (y5 (x - f, m) (by simp)).2
    have a2 := (y5 (y - g, n) (by simp)).2
    obtain ⟨s, hs⟩ := Int.eq_ofNat_of_zero_le y1
    have hle : R.1 ≤ i := by
      rcases Int.lt_or_le (i : Int) R.1 with h | h
      · exfalso
        have h9 : R.2.1 ∣ R.1 - (i : Int) := by
          have := Int.dvd_neg.2 o2
          rwa [show -((i : Int) - R.1) = R.1 - i by omega] at this
        have := Int.le_of_dvd (by omega) h9
        omega
      · exact h
    rw [hs] at a1 a2 hle ⊢
    rcases Nat.lt_or_ge s i with h | h
    · exact absurd ((hpt s (by omega)).2 ⟨a1, a2⟩) (c3 s (by omega) h)
    · omega

end Go.Proofs.Ytijfcifoemndeab
