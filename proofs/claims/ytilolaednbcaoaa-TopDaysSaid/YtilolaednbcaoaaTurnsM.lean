/- A turned cycle moves every menu by as much: plain functions. -/
import Derived.Test.YtilolaednbcaoaaTurnM
import Derived.Test.YtilolaednbcaoaaSolveM
set_option linter.unusedVariables false
namespace Go.Proofs.Ytilolaednbcaoaa

def longB (rs cs : List Int) : Bool := decide (50 < rs.length ∨ 200 < cs.length)
theorem longB_false {rs cs : List Int} (h : longB rs cs = false) : rs.length ≤ 50 ∧ cs.length ≤ 200 := by
  simp [longB] at h; omega

def movedBy (m b : Int) (l : List (Int × Int)) : List (Int × Int) := l.map (fun x => (x.1, (x.2 + b) % m))
theorem foldM_turn (m k b : Int) (l : List (Int × Bool)) (s s' : Int × List (Int × Int)) (h1 : s'.1 = (s.1 + b) % m) (h2 : s'.2 = movedBy m b s.2) :
    (l.foldl (stepM m k) s').1 = ((l.foldl (stepM m k) s).1 + b) % m ∧ (l.foldl (stepM m k) s').2 = movedBy m b (l.foldl (stepM m k) s).2 := by
  induction l generalizing s s' with
  | nil => exact ⟨h1, h2⟩
  | cons x t ih =>
    rw [List.foldl_cons, List.foldl_cons]
    apply ih
    · simp only [stepM]
      split
      · rw [h1, Int.emod_add_emod, Int.emod_add_emod]; congr 1; omega
      · exact h1
    · simp only [stepM]
      split
      · rw [h1, h2]; simp [movedBy]
      · exact h2
theorem mst_turn (m k f b : Int) (l : List (Int × Bool)) : (mst m k ((f + b) % m) l).2 = movedBy m b (mst m k f l).2 :=
  (foldM_turn m k b l (f, []) ((f + b) % m, []) rfl rfl).2
theorem findD_moved (m b d : Int) (l : List (Int × Int)) : findD d (movedBy m b l) = (findD d l).map (fun v => (v + b) % m) := by
  induction l with
  | nil => rfl
  | cons x t ih =>
    show findD d ((x.1, (x.2 + b) % m) :: movedBy m b t) = _
    rw [findD, findD]
    split
    · simp
    · exact ih
theorem badC_turn {m f k : Int} (b : Int) (h : badC m f k = false) : badC m ((f + b) % m) k = false := by
  have h1 := validC_ok h
  have h2 := emod_bd (f + b) m h1.1
  simp [badC]; omega
/-- What the law asks of a turned cycle. -/
theorem menu_turn (L : Int) (rs cs : List Int) (m f k d b : Int) (hc : badC m f k = false) (h0 : (menuL L rs cs m f k d).2 = 0) :
    (menuL L rs cs m ((f + b) % m) k d) = (((menuL L rs cs m f k d).1 + b) % m, 0) := by
  have hc' := badC_turn b hc
  have e1 : checkC L rs cs [(m, (f + b) % m, k)] = checkC L rs cs [(m, f, k)] := by simp [checkC, anyBadC, hc, hc']
  unfold menuL at h0 ⊢
  rw [e1]
  split
  · rename_i h; rw [if_pos h] at h0; exact absurd h0 h
  · rename_i h
    rw [if_neg h] at h0
    split
    · rename_i h2; rw [if_pos h2] at h0; exact absurd h0 h2
    · rename_i h2
      rw [if_neg h2] at h0
      rw [mdays, mst_turn, findD_moved]
      rw [mdays] at h0 ⊢
      cases hf : findD d (mst m k f (wd rs cs L.toNat)).2 with
      | none => rw [hf] at h0; simp [findR] at h0
      | some v => simp [findR]
theorem findD_mem (d v : Int) (l : List (Int × Int)) (h : findD d l = some v) : (d, v) ∈ l := by
  induction l with
  | nil => cases h
  | cons x t ih =>
    obtain ⟨a, c⟩ := x
    rw [findD] at h
    split at h
    · rename_i e
      simp only [Option.some.injEq] at h
      simp only at e
      subst e; subst h
      exact List.mem_cons_self ..
    · exact List.mem_cons_of_mem _ (ih h)
theorem foldM_vals (m k : Int) (hm : 1 ≤ m) (l : List (Int × Bool)) (s : Int × List (Int × Int)) (h1 : 0 ≤ s.1 ∧ s.1 < m) (h2 : ∀ x ∈ s.2, 0 ≤ x.2 ∧ x.2 < m) :
    ∀ x ∈ (l.foldl (stepM m k) s).2, 0 ≤ x.2 ∧ x.2 < m := by
  induction l generalizing s with
  | nil => exact h2
  | cons y t ih =>
    rw [List.foldl_cons]
    apply ih
    · simp only [stepM]; split
      · exact emod_bd _ _ hm
      · exact h1
    · simp only [stepM]; split
      · intro x hx
        rcases List.mem_append.1 hx with hx | hx
        · exact h2 x hx
        · simp at hx; subst hx; exact h1
      · exact h2
theorem menu_bd (L : Int) (rs cs : List Int) (m f k d : Int) (hc : badC m f k = false) : 0 ≤ (menuL L rs cs m f k d).1 ∧ (menuL L rs cs m f k d).1 < m := by
  have h1 := validC_ok hc
  unfold menuL
  split
  · simp; omega
  · split
    · simp; omega
    · cases hf : findD d (mdays L rs cs m f k) with
      | none => simp [findR]; omega
      | some v =>
        simp only [findR]
        exact foldM_vals m k h1.1 _ (f, []) ⟨h1.2.2.1, h1.2.2.2.1⟩ (by simp) _ (findD_mem d v _ hf)

end Go.Proofs.Ytilolaednbcaoaa
