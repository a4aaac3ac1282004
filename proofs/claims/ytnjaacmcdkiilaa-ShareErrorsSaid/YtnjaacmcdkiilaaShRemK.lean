/- What remainders keep: plain facts. -/
import Derived.Test.YtnjaacmcdkiilaaShLos
set_option linter.unusedVariables false
namespace Go.Proofs.Ytnjaacmcdkiilaa

theorem remL_sum {os : List Int} {n : Int} (h : remO os n = true) : sumL (remL os n) = n := by
  obtain ⟨g1, g2, g3⟩ := remO_ok h
  obtain ⟨_, h0, h1⟩ := lft_facts g1 g2 g3
  have e : remL os n = (List.range os.length).map (fun i => flo os n i + if decide (rnk (fra os n) os.length i < (lft os n).toNat) = true then 1 else 0) := by
    unfold remL plusTo
    congr 1
    funext i
    simp
  rw [e, sumL_range, sumF_add, sumF_cnt, rnk_count _ _ _ (by omega)]
  have hl : lft os n = n - sumF (flo os n) os.length := by unfold lft floL; rw [sumL_range]
  omega
theorem remL_nn {os : List Int} {n : Int} (h : remO os n = true) : ∀ x ∈ remL os n, 0 ≤ x := by
  obtain ⟨g1, g2, g3⟩ := remO_ok h
  intro x hx
  unfold remL plusTo at hx
  rw [List.mem_map] at hx
  obtain ⟨i, hi, rfl⟩ := hx
  have := flo_facts g1 g2 g3 (List.mem_range.1 hi)
  split <;> omega
theorem remL_vals {os : List Int} {n : Int} (h : remO os n = true) : ∀ x ∈ remL os n, 0 ≤ x ∧ x ≤ 1000 := by
  intro x hx
  have h1 := remL_nn h x hx
  have h2 := sumL_ge (remL_nn h) hx
  rw [remL_sum h] at h2
  have := remO_ok h
  omega
theorem remL_ok {os : List Int} {n : Int} (h : remO os n = true) : okMs os (remL os n) = true := by
  unfold okMs
  rw [Bool.and_eq_true]
  refine ⟨by simpa using remL_len os n, all_of_at (fun k hk => ?_)⟩
  exact remL_vals h _ (at0_mem hk)
theorem fra_pos {os : List Int} {n : Int} (h : remO os n = true) {k : Nat} (hk : k < os.length) (hr : rnk (fra os n) os.length k < (lft os n).toNat) : 0 < fra os n k := by
  obtain ⟨g1, g2, g3⟩ := remO_ok h
  obtain ⟨e, h0, h1⟩ := lft_facts g1 g2 g3
  obtain ⟨_, hs1, _⟩ := okO_vals g1
  have hf := fun i (hi : i < os.length) => flo_facts g1 g2 g3 hi
  have hk0 := (hf k hk).2.2.2.2.1
  rcases Int.lt_or_le 0 (fra os n k) with g | g
  · exact g
  · have hz : fra os n k = 0 := by omega
    have hle : sumF (fra os n) os.length ≤ sumF (fun i => if bfr (fra os n) i k = true then sumL os else 0) os.length := sumF_le (fun i hi => by
      have := hf i hi
      by_cases hb : bfr (fra os n) i k = true
      · rw [if_pos hb]; omega
      · rw [if_neg hb]
        rcases Int.lt_or_le 0 (fra os n i) with g2 | g2
        · exact absurd (bfr_iff.2 (.inl (by omega))) hb
        · exact g2)
    rw [sumF_cnt, ← e] at hle
    change lft os n * sumL os ≤ (rnk (fra os n) os.length k : Int) * sumL os at hle
    have := Int.le_of_mul_le_mul_right hle (by omega)
    omega
theorem remL_keeps {os : List Int} {n : Int} (h : remO os n = true) : keepsL os (remL os n) = true ∧ okP os (remL os n) = true := by
  obtain ⟨g1, g2, g3⟩ := remO_ok h
  obtain ⟨_, hs1, _⟩ := okO_vals g1
  have hp : okP os (remL os n) = true := by unfold okP; rw [g1, remL_ok h]; rfl
  refine ⟨?_, hp⟩
  unfold keepsL
  rw [hp, Bool.true_and, keeps_iff (okO_len g1).1]
  intro k hk
  have hf := flo_facts g1 g2 g3 hk
  have hat := remL_at (n := n) hk
  unfold difL
  rw [remL_sum h, hat]
  by_cases hr : rnk (fra os n) os.length k < (lft os n).toNat
  · have := fra_pos h hk hr
    rw [if_pos hr, Int.add_mul, Int.one_mul]
    omega
  · rw [if_neg hr, Int.add_mul, Int.zero_mul]
    omega
end Go.Proofs.Ytnjaacmcdkiilaa
