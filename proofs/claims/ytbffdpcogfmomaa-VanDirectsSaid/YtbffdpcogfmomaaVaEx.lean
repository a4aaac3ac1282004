/- The chapter's first example. Plain mathematics. -/
import Derived.Test.YtbffdpcogfmomaaVaBdM
set_option linter.unusedVariables false
namespace Go.Proofs.Ytbffdpcogfmomaa

def exW : Tbl := [[0, 3, 4], [3, 0, 5], [4, 5, 0]]
theorem ex_sym : ∀ a ∈ (0 : Int) :: stopsL 3, ∀ b ∈ (0 : Int) :: stopsL 3, tA exW a b = tA exW b a := by decide +kernel
theorem ex_tree : Mst exW ((0 : Int) :: stopsL exW.length) 0 7 := by
  have h0 : Grow exW ((0 : Int) :: stopsL 3) 0 [0] [1, 2] 0 := Grow.start (List.Perm.refl _)
  have h1 := h0.step (x := 0) (y := 1) ex_sym (by decide +kernel) (by decide) (by decide) (by decide +kernel) (S' := [1, 0]) (R' := [2]) (List.Perm.refl _) (List.Perm.refl _)
  have h2 := h1.step (x := 0) (y := 2) ex_sym (by decide +kernel) (by decide) (by decide) (by decide +kernel) (S' := [2, 1, 0]) (R' := []) (List.Perm.refl _) (List.Perm.refl _)
  exact h2.mst
theorem ex_sym2 : ∀ a ∈ stopsL 3, ∀ b ∈ stopsL 3, tA (cntT exW [0, 0, 0]) a b = tA (cntT exW [0, 0, 0]) b a := by decide +kernel
theorem ex_two : IsTwo (cntT exW [0, 0, 0]) 3 7 := by
  refine ⟨⟨1, 2, by omega, by omega, by omega, by decide +kernel⟩, fun x y hx hy hxy => ?_⟩
  have h1 : x = 1 ∨ x = 2 := by omega
  have h2 : y = 1 ∨ y = 2 := by omega
  rcases h1 with rfl | rfl <;> rcases h2 with rfl | rfl <;> first | exact absurd rfl hxy | decide +kernel
theorem ex_bound : BoundIs exW [0, 0, 0] 12 := by
  have h0 : Grow (cntT exW [0, 0, 0]) (stopsL 3) 1 [1] [2] 0 := Grow.start (List.Perm.refl _)
  have h1 := h0.step (x := 1) (y := 2) ex_sym2 (by decide +kernel) (by decide) (by decide) (by decide +kernel) (S' := [2, 1]) (R' := []) (List.Perm.refl _) (List.Perm.refl _)
  exact ⟨_, 7, h1.mst, ex_two, by decide +kernel⟩
end Go.Proofs.Ytbffdpcogfmomaa
