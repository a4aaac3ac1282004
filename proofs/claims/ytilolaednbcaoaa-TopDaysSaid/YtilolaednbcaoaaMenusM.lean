/- The two ways to find a menu agree: plain functions. -/
import Derived.Test.YtilolaednbcaoaaMenuM
import Derived.Test.YtilolaednbcaoaaRefM
set_option linter.unusedVariables false
namespace Go.Proofs.Ytilolaednbcaoaa

/-- What the document's own answer for a menu is. -/
def rmenuL (L : Int) (rs cs : List Int) (m f k d : Int) : Int × Int :=
  if checkC L rs cs [(m, f, k)] ≠ 0 then (0, checkC L rs cs [(m, f, k)])
  else if d < 0 ∨ L ≤ d then (0, 1)
  else if openB rs cs d = false then (0, 13)
  else ((rst rs cs m k f L.toNat).2[d.toNat]?.getD 0, 0)

theorem mst_rst (rs cs : List Int) (m k f : Int) (hk : k = 0 ∨ k = 1) (j : Nat) :
    (mst m k f (wd rs cs j)).1 = (rst rs cs m k f j).1 ∧ (∀ x ∈ (mst m k f (wd rs cs j)).2, x.1 < (j : Int)) ∧
    ∀ i : Nat, i < j → findD (i : Int) (mst m k f (wd rs cs j)).2 = if openB rs cs (i : Int) then some ((rst rs cs m k f j).2[i]?.getD 0) else none := by
  induction j with
  | zero => exact ⟨rfl, (by intro x hx; cases hx), (by intro i hi; omega)⟩
  | succ j ih =>
    obtain ⟨h1, h2, h3⟩ := ih
    have hl := rst_len rs cs m k f j
    have hold : ∀ i : Nat, i < j → (rst rs cs m k f (j + 1)).2[i]?.getD 0 = (rst rs cs m k f j).2[i]?.getD 0 := fun i hi => by
      rw [rst, rstep]
      dsimp only
      rw [List.getElem?_append_left (by omega)]
    have hnew : (rst rs cs m k f (j + 1)).2[j]?.getD 0 = if openB rs cs (j : Int) then (rst rs cs m k f j).1 else -1 := by
      rw [rst, rstep]
      dsimp only
      rw [List.getElem?_append_right (by omega), hl]
      simp
    have hnone : findD (j : Int) (mst m k f (wd rs cs j)).2 = none := by
      cases hf : findD (j : Int) (mst m k f (wd rs cs j)).2 with
      | none => rfl
      | some v =>
        exfalso
        have hmem : ∀ (d : Int) (l : List (Int × Int)), findD d l = some v → ∃ x ∈ l, x.1 = d := by
          intro d l
          induction l with
          | nil => intro hh; cases hh
          | cons y t iht =>
            intro hh
            rw [findD] at hh
            split at hh
            · rename_i e; exact ⟨y, List.mem_cons_self .., e⟩
            · obtain ⟨x, hx, e⟩ := iht hh; exact ⟨x, List.mem_cons_of_mem _ hx, e⟩
        obtain ⟨x, hx, e⟩ := hmem _ _ hf
        have := h2 x hx
        omega
    cases hm : memB ((j : Int) % 7) rs with
    | true =>
      have hw : wd rs cs (j + 1) = wd rs cs j := by rw [wd, hm]; simp
      have ho : openB rs cs (j : Int) = false := by simp [openB, hm]
      rw [hw]
      refine ⟨?_, fun x hx => by have := h2 x hx; omega, fun i hi => ?_⟩
      · rw [h1, rst, rstep]; simp [ho, hm]
      · rcases Nat.lt_or_ge i j with hij | hij
        · rw [h3 i hij, hold i hij]
        · obtain rfl : i = j := by omega
          rw [hnone, ho]; simp
    | false =>
      have hw : wd rs cs (j + 1) = wd rs cs j ++ [((j : Int), !memB (j : Int) cs)] := by rw [wd, hm]; simp
      have ho : openB rs cs (j : Int) = !memB (j : Int) cs := by simp [openB, hm]
      rw [hw, mst_snoc]
      refine ⟨?_, ?_, fun i hi => ?_⟩
      · rw [rst, rstep]
        simp only [stepM]
        rw [h1, ho, hm]
        rcases hk with rfl | rfl
        · simp
        · simp
      · intro x hx
        simp only [stepM] at hx
        split at hx
        · rcases List.mem_append.1 hx with hx | hx
          · have := h2 x hx; omega
          · simp at hx; subst hx; simp; omega
        · have := h2 x hx; omega
      · simp only [stepM]
        cases hc : memB (j : Int) cs with
        | true =>
          rw [hc] at ho
          simp only [Bool.not_true, Bool.false_eq_true, if_false]
          rcases Nat.lt_or_ge i j with hij | hij
          · rw [h3 i hij, hold i hij]
          · obtain rfl : i = j := by omega
            rw [hnone, ho]; simp
        | false =>
          rw [hc] at ho
          simp only [Bool.not_false, if_true]
          rcases Nat.lt_or_ge i j with hij | hij
          · rw [findD_append, h3 i hij, hold i hij]
            split
            · rename_i v hv
              split at hv
              · rename_i hh; rw [hh]; simpa using hv.symm
              · cases hv
            · rename_i hv
              split at hv
              · cases hv
              · rename_i hh
                simp only [findD]
                rw [if_neg (by omega)]
                simp [hh]
          · obtain rfl : i = j := by omega
            rw [findD_append, hnone, hnew, ho]
            simp [findD, h1]
theorem menuL_eq (L : Int) (rs cs : List Int) (m f k d : Int) : menuL L rs cs m f k d = rmenuL L rs cs m f k d := by
  unfold menuL rmenuL
  split
  · rfl
  · rename_i h
    obtain ⟨hv, hc⟩ := checkC_zero (by simpa using h)
    have hok := validT_ok hv
    have hokc := validC_ok hc
    have hD : checkD L rs cs d = if d < 0 ∨ L ≤ d then 1 else 0 := by rw [checkD, if_neg (by simp [hv])]
    rw [hD]
    by_cases hd : d < 0 ∨ L ≤ d
    · simp [hd]
    · rw [if_neg hd]
      simp only [hd, if_false, ne_eq, not_true_eq_false]
      obtain ⟨n, rfl⟩ : ∃ n : Nat, L = n := ⟨L.toNat, by omega⟩
      obtain ⟨i, rfl⟩ : ∃ i : Nat, d = i := ⟨d.toNat, by omega⟩
      have := (mst_rst rs cs m k f hokc.2.2.2.2 n).2.2 i (by omega)
      simp only [Int.toNat_natCast] at *
      rw [mdays, Int.toNat_natCast, this]
      cases ho : openB rs cs (i : Int) <;> simp [findR]

end Go.Proofs.Ytilolaednbcaoaa
