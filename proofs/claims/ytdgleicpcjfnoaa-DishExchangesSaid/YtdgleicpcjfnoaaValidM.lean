/- Valid terms and cycles, as plain functions. -/
set_option linter.unusedVariables false
namespace Go.Proofs.Ytdgleicpcjfnoaa

/-- A set of numbers from least to e - 1. -/
def isSetFrom : Int → Int → List Int → Bool
  | _, _, [] => true
  | least, e, x :: xs => if x < least ∨ e ≤ x then false else isSetFrom (x + 1) e xs

theorem isSetFrom_drop (least e : Int) (xs : List Int) (k : Nat) (h : k < xs.length) :
  isSetFrom least e (xs.drop k) = if xs[k]?.getD 0 < least ∨ e ≤ xs[k]?.getD 0 then false else isSetFrom (xs[k]?.getD 0 + 1) e (xs.drop (k+1)) := by
  rw [List.drop_eq_getElem_cons h, isSetFrom]; simp [h]

def validT (L : Int) (rs cs : List Int) : Int :=
  if L < 1 ∨ 1000 < L then 1 else if rs.length = 7 ∨ isSetFrom 0 7 rs = false then 1 else if 60 < cs.length then 4 else if isSetFrom 0 L cs = false then 1 else 0
def badC (m f k : Int) : Bool := decide (m < 1 ∨ 40 < m ∨ f < 0 ∨ m ≤ f ∨ (k ≠ 0 ∧ k ≠ 1))
def validC (m f k : Int) : Int := if badC m f k then 1 else 0
def anyBadC : List (Int × Int × Int) → Bool
  | [] => false
  | c :: t => badC c.1 c.2.1 c.2.2 || anyBadC t
def checkC (L : Int) (rs cs : List Int) (l : List (Int × Int × Int)) : Int :=
  if validT L rs cs ≠ 0 then validT L rs cs else if anyBadC l then 1 else 0
def checkD (L : Int) (rs cs : List Int) (d : Int) : Int :=
  if validT L rs cs ≠ 0 then validT L rs cs else if d < 0 ∨ L ≤ d then 1 else 0

def isMenuB (m x : Int) : Bool := decide (0 ≤ x ∧ x < m)
theorem anyBadC_drop (ls : List (Int × Int × Int)) (k : Nat) (h : k < ls.length) :
    anyBadC (ls.drop k) = (badC (ls[k]?.getD (0, 0, 0)).1 (ls[k]?.getD (0, 0, 0)).2.1 (ls[k]?.getD (0, 0, 0)).2.2 || anyBadC (ls.drop (k + 1))) := by
  rw [List.drop_eq_getElem_cons h, anyBadC]; simp [h]
theorem validC_ok {m f k : Int} (h : badC m f k = false) : 1 ≤ m ∧ m ≤ 40 ∧ 0 ≤ f ∧ f < m ∧ (k = 0 ∨ k = 1) := by
  simp [badC] at h; omega

theorem validT_ok {L : Int} {rs cs : List Int} (h : validT L rs cs = 0) : 1 ≤ L ∧ L ≤ 1000 ∧ rs.length ≠ 7 ∧ isSetFrom 0 7 rs = true ∧ cs.length ≤ 60 ∧ isSetFrom 0 L cs = true := by
  unfold validT at h
  repeat' split at h
  all_goals first | (simp at h; done) | skip
  rename_i h1 h2 h3 h4
  refine ⟨by omega, by omega, fun e => h2 (.inl e), ?_, by omega, by simpa using h4⟩
  cases hh : isSetFrom 0 7 rs with
  | true => rfl
  | false => exact absurd (.inr hh) h2

end Go.Proofs.Ytdgleicpcjfnoaa
