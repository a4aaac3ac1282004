/- What the Go function Menu answers, as a plain function. -/
import Derived.Test.YtilolaednbcaoaaDaysM
set_option linter.unusedVariables false
namespace Go.Proofs.Ytilolaednbcaoaa

def findD (d : Int) : List (Int × Int) → Option Int
  | [] => none
  | x :: t => if x.1 = d then some x.2 else findD d t
theorem findD_append (d : Int) (a b : List (Int × Int)) : findD d (a ++ b) = match findD d a with | some v => some v | none => findD d b := by
  induction a with
  | nil => rfl
  | cons x t ih =>
    rw [List.cons_append, findD, findD]
    split
    · rfl
    · exact ih
theorem findD_snoc_yes (d : Int) (a : List (Int × Int)) (v : Int) (h : findD d a = none) : findD d (a ++ [(d, v)]) = some v := by
  rw [findD_append, h]; simp [findD]
theorem findD_snoc_no (d e : Int) (a : List (Int × Int)) (v : Int) (h : findD d a = none) (hn : e ≠ d) : findD d (a ++ [(e, v)]) = none := by
  rw [findD_append, h]; simp [findD, hn]
theorem findD_prefix (d : Int) (a b : List (Int × Int)) (v : Int) (h : findD d a = some v) (hp : a <+: b) : findD d b = some v := by
  obtain ⟨t, rfl⟩ := hp
  rw [findD_append, h]
/-- The days with their menus. -/
def mdays (L : Int) (rs cs : List Int) (m f k : Int) : List (Int × Int) := (mst m k f (wd rs cs L.toNat)).2
def findR : Option Int → Int × Int | some v => (v, 0) | none => (0, 13)
def menuL (L : Int) (rs cs : List Int) (m f k d : Int) : Int × Int :=
  if checkC L rs cs [(m, f, k)] ≠ 0 then (0, checkC L rs cs [(m, f, k)])
  else if checkD L rs cs d ≠ 0 then (0, checkD L rs cs d)
  else findR (findD d (mdays L rs cs m f k))

theorem checkC_zero {L : Int} {rs cs : List Int} {m f k : Int} (h : checkC L rs cs [(m, f, k)] = 0) : validT L rs cs = 0 ∧ badC m f k = false := by
  unfold checkC at h
  split at h
  · rename_i h1; exact absurd h h1
  · rename_i h1
    refine ⟨by simpa using h1, ?_⟩
    cases hb : badC m f k with
    | false => rfl
    | true => simp [anyBadC, hb] at h

end Go.Proofs.Ytilolaednbcaoaa
