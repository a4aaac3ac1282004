/- The days with a menu: plain functions. -/
import Derived.Test.YtilolaednbcaoaaMenusM
import Derived.Test.YtilolaednbcaoaaOpensM
set_option linter.unusedVariables false
namespace Go.Proofs.Ytilolaednbcaoaa

def dw (x : Int) (l : List (Int × Int)) : List Int := (l.filter (fun y => decide (y.2 = x))).map (fun y => y.1)
theorem dw_yes (x d : Int) (l : List (Int × Int)) : dw x (l ++ [(d, x)]) = dw x l ++ [d] := by simp [dw]
theorem dw_no (x d y : Int) (l : List (Int × Int)) (h : ¬ y = x) : dw x (l ++ [(d, y)]) = dw x l := by simp [dw, h]
theorem dw_len (x : Int) (l : List (Int × Int)) : (dw x l).length ≤ l.length := by unfold dw; rw [List.length_map]; exact List.length_filter_le _ _
theorem mst_len (m k f : Int) (l : List (Int × Bool)) : (mst m k f l).2.length ≤ l.length := by
  suffices H : ∀ s : Int × List (Int × Int), (l.foldl (stepM m k) s).2.length ≤ s.2.length + l.length from by
    have := H (f, [])
    unfold mst
    simpa using this
  induction l with
  | nil => intro s; simp
  | cons x t ih =>
    intro s
    rw [List.foldl_cons]
    refine Nat.le_trans (ih _) ?_
    simp only [stepM]
    split <;> simp <;> omega
theorem mdays_len (L : Int) (rs cs : List Int) (m f k : Int) : (mdays L rs cs m f k).length ≤ L.toNat := by
  have h1 := mst_len m k f (wd rs cs L.toNat)
  have h2 := wd_len rs cs L.toNat
  unfold mdays; omega

end Go.Proofs.Ytilolaednbcaoaa
