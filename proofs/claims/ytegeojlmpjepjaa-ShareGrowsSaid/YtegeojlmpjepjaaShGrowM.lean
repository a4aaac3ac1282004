/- Who gives a meal back first is who was given the last one. -/
import Derived.Test.YtegeojlmpjepjaaShOrdM
import Derived.Test.YtegeojlmpjepjaaShK
set_option linter.unusedVariables false
namespace Go.Proofs.Ytegeojlmpjepjaa
open Go.RowKit

theorem divE_succ {os : List Int} {N K : Int} (h0 : 0 ≤ N) (h1 : N < 1000) : divE os (N + 1) K = divE os N K := by
  unfold divE
  rw [show inW (N + 1) 0 1000 = true by simp [inW]; omega, show inW N 0 1000 = true by simp [inW]; omega]
theorem giver_best {kind : Int} {os : List Int} (ho : okO os = true) (n : Nat) (hn : n < 1000) : heldL kind os (giveL kind os (n + 1)).2 ≠ [] ∧ (lastMin rankL (heldL kind os (giveL kind os (n + 1)).2)).1 = (bestL kind os (giveL kind os n).2 : Int) := by
  have h1 := (okO_len ho).1
  have hO := giveL_ordered (kind := kind) ho n (by omega)
  have hm := giveL_ok kind os n (by omega)
  have hm' := giveL_ok kind os (n + 1) (by omega)
  have hc := bestL_lt (kind := kind) (ms := (giveL kind os n).2) h1
  have hl := giveL_len2 kind os n
  have hbd := giveL_bd kind os n
  have hs : (giveL kind os (n + 1)).2 = (giveL kind os n).2.set (bestL kind os (giveL kind os n).2) (at0 (giveL kind os n).2 (bestL kind os (giveL kind os n).2) + 1) := rfl
  generalize (giveL kind os (n + 1)).2 = b at *
  generalize (giveL kind os n).2 = a at *
  generalize bestL kind os a = i at *
  have ab : ∀ k, at0 b k = if k = i then at0 a i + 1 else at0 a k := fun k => by rw [hs, at0_set _ _ _ _ (by omega)]
  have hmem : heldC kind os b i ∈ heldL kind os b := (heldTo_mem _ _ _ _ _).2 ⟨i, hc, by rw [ab, if_pos rfl]; have := hbd i; omega, rfl⟩
  have hne : heldL kind os b ≠ [] := fun h => by rw [h] at hmem; cases hmem
  refine ⟨hne, ?_⟩
  have hgd : ∀ c ∈ heldL kind os b, GoodC c := heldTo_good ho hm' _ (Nat.le_refl _)
  have hl1 := heldL_ne hne
  obtain ⟨p, hp, hpe⟩ := mem_clAt hmem
  have hle := minTo_le (f := rankL) rankL_neg (fun c d e a b c' => rankL_trans a b c') hgd ((heldL kind os b).length - 1) (by omega) p (by omega)
  rw [hpe] at hle
  have hx : lastMin rankL (heldL kind os b) ∈ heldL kind os b := minTo_mem _ _ _ (by omega)
  obtain ⟨j, hj, hjp, hje⟩ := (heldTo_mem _ _ _ _ _).1 hx
  rw [show minTo rankL (heldL kind os b) ((heldL kind os b).length - 1) = lastMin rankL (heldL kind os b) from rfl, hje] at hle
  rw [hje]
  by_cases e : j = i
  · subst e; rfl
  · exfalso
    have q1 : heldC kind os b j = heldC kind os a j := by unfold heldC; rw [ab, if_neg e]
    have q2 : heldC kind os b i = nextC kind os a i := by unfold heldC nextC; rw [ab, if_pos rfl, Int.add_sub_cancel]
    rw [ab, if_neg e] at hjp
    have := hO j i hj hc hjp
    rw [q1, q2, rankL_neg] at hle
    omega
end Go.Proofs.Ytegeojlmpjepjaa
