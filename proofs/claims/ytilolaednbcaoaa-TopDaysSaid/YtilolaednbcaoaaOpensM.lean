/- Searches among the school days: plain functions. -/
import Derived.Test.YtilolaednbcaoaaMenuM
set_option linter.unusedVariables false
namespace Go.Proofs.Ytilolaednbcaoaa

theorem checkD_zero {L : Int} {rs cs : List Int} {d : Int} (h : checkD L rs cs d = 0) : validT L rs cs = 0 := by
  unfold checkD at h
  split at h
  · rename_i h1; exact absurd h h1
  · rename_i h1; simpa using h1

/-! IsOpen -/
def openLR (l : List Int) (d : Int) : Bool × Int := (memB d l, 0)
def openL (L : Int) (rs cs : List Int) (d : Int) : Bool × Int :=
  if checkD L rs cs d ≠ 0 then (false, checkD L rs cs d) else openLR (sdl (wd rs cs L.toNat)) d
def openLI (pre : List Int) (d : Int) : Prop := d ∉ pre
def openLH (pre : List Int) (d : Int) (v : Bool) : Prop := d ∈ pre ∧ v = true
theorem openLI_nil (d : Int) : openLI [] d := by simp [openLI]
theorem openLI_snoc (pre : List Int) (d x : Int) (h : openLI pre d) (hn : ¬ x = d) : openLI (pre ++ [x]) d := by
  simp only [openLI, List.mem_append, List.mem_singleton] at *
  intro hh
  rcases hh with hh | hh
  · exact h hh
  · exact hn hh.symm
theorem openLH_snoc (pre : List Int) (d x : Int) (h : openLI pre d) (hy : x = d) : openLH (pre ++ [x]) d true := by
  subst hy; exact ⟨by simp, rfl⟩
theorem openLR_none (l : List Int) (d : Int) (h : openLI l d) : openLR l d = (false, 0) := by simp [openLR, memB, openLI] at *; exact h
theorem openLR_some (pre l : List Int) (d : Int) (v : Bool) (h : openLH pre d v) (hp : pre <+: l) : openLR l d = (v, 0) := by
  obtain ⟨h1, rfl⟩ := h
  simp [openLR, memB, hp.subset h1]

/-! Next -/
def findGe (d : Int) : List Int → Option Int
  | [] => none
  | x :: t => if d ≤ x then some x else findGe d t
theorem findGe_append (d : Int) (a b : List Int) : findGe d (a ++ b) = match findGe d a with | some v => some v | none => findGe d b := by
  induction a with
  | nil => rfl
  | cons x t ih =>
    rw [List.cons_append, findGe, findGe]
    split
    · rfl
    · exact ih
def optR : Option Int → Int × Int | some v => (v, 0) | none => (0, 5)
def nextLR (l : List Int) (d : Int) : Int × Int := optR (findGe d l)
def nextL (L : Int) (rs cs : List Int) (d : Int) : Int × Int :=
  if checkD L rs cs d ≠ 0 then (0, checkD L rs cs d) else nextLR (sdl (wd rs cs L.toNat)) d
def nextLI (pre : List Int) (d : Int) : Prop := findGe d pre = none
def nextLH (pre : List Int) (d : Int) (v : Int) : Prop := findGe d pre = some v
theorem nextLI_nil (d : Int) : nextLI [] d := rfl
theorem nextLI_snoc (pre : List Int) (d x : Int) (h : nextLI pre d) (hn : ¬ d ≤ x) : nextLI (pre ++ [x]) d := by
  unfold nextLI at *; rw [findGe_append, h]; simp [findGe, hn]
theorem nextLH_snoc (pre : List Int) (d x : Int) (h : nextLI pre d) (hy : d ≤ x) : nextLH (pre ++ [x]) d x := by
  unfold nextLI at h; unfold nextLH; rw [findGe_append, h]; simp [findGe, hy]
theorem nextLR_none (l : List Int) (d : Int) (h : nextLI l d) : nextLR l d = (0, 5) := by unfold nextLI at h; rw [nextLR, h]; rfl
theorem nextLR_some (pre l : List Int) (d v : Int) (h : nextLH pre d v) (hp : pre <+: l) : nextLR l d = (v, 0) := by
  obtain ⟨t, rfl⟩ := hp
  unfold nextLH at h
  rw [nextLR, findGe_append, h]; rfl

/-! Nth -/
def nthAt (l : List Int) (d : Int) : Option Int := if d < 0 then none else l[d.toNat]?
def nthLR (l : List Int) (d : Int) : Int × Int := optR (nthAt l d)
def nthL (L : Int) (rs cs : List Int) (d : Int) : Int × Int :=
  if validT L rs cs ≠ 0 then (0, validT L rs cs) else nthLR (sdl (wd rs cs L.toNat)) d
def nthLI (pre : List Int) (d : Int) : Prop := d < 0 ∨ (pre.length : Int) ≤ d
def nthLH (pre : List Int) (d : Int) (v : Int) : Prop := nthAt pre d = some v
theorem nthLI_nil (d : Int) : nthLI [] d := by simp [nthLI]; omega
theorem nthLI_snoc (pre : List Int) (d x : Int) (h : nthLI pre d) (hn : ¬ (pre.length : Int) = d) : nthLI (pre ++ [x]) d := by
  simp [nthLI] at *; omega
theorem nthLH_snoc (pre : List Int) (d x : Int) (h : nthLI pre d) (hy : (pre.length : Int) = d) : nthLH (pre ++ [x]) d x := by
  subst hy; unfold nthLH nthAt; rw [if_neg (by omega)]; simp
theorem nthLR_none (l : List Int) (d : Int) (h : nthLI l d) : nthLR l d = (0, 5) := by
  have : nthAt l d = none := by
    unfold nthAt; split
    · rfl
    · unfold nthLI at h
      exact List.getElem?_eq_none (by omega)
  rw [nthLR, this]; rfl
theorem nthLR_some (pre l : List Int) (d v : Int) (h : nthLH pre d v) (hp : pre <+: l) : nthLR l d = (v, 0) := by
  obtain ⟨t, rfl⟩ := hp
  have : nthAt (pre ++ t) d = some v := by
    unfold nthLH nthAt at h
    unfold nthAt
    split at h
    · cases h
    · rename_i hd
      rw [if_neg hd, List.getElem?_append_left, h]
      exact (List.getElem?_eq_some_iff.1 h).1
  rw [nthLR, this]; rfl
theorem wd_len (rs cs : List Int) (n : Nat) : (wd rs cs n).length ≤ n := by
  induction n with
  | zero => simp [wd]
  | succ n ih => rw [wd, List.length_append]; split <;> simp <;> omega
theorem sd_len (rs cs : List Int) (n : Nat) (pre : List Int) (x : Int) (h : ∃ suf, sdl (wd rs cs n) = pre ++ x :: suf) : pre.length < n := by
  obtain ⟨suf, h⟩ := h
  have h1 : (sdl (wd rs cs n)).length ≤ (wd rs cs n).length := by simp [sdl]; exact List.length_filter_le _ _
  have h2 := wd_len rs cs n
  rw [h] at h1
  simp at h1
  omega

end Go.Proofs.Ytilolaednbcaoaa
