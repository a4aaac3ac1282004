/- Plain functions for the document's own answers. -/
import Derived.Test.YtdgleicpcjfnoaaSearchM
set_option linter.unusedVariables false
namespace Go.Proofs.Ytdgleicpcjfnoaa

theorem memB_drop (v : Int) (xs : List Int) (k : Nat) (h : k < xs.length) : memB v (xs.drop k) = (decide (xs[k]?.getD 0 = v) || memB v (xs.drop (k + 1))) := by
  rw [List.drop_eq_getElem_cons h]
  have e : (xs[k]?.getD 0 = v) ↔ v = xs[k] := by simp [h, eq_comm]
  rw [memB, memB, ← Bool.decide_or, decide_eq_decide, List.mem_cons, e]
/-- The least number that may come at place k of a set. -/
def lastNext (xs : List Int) : Nat → Int
  | 0 => 0
  | k + 1 => xs[k]?.getD 0 + 1

/-- A school day. -/
def openB (rs cs : List Int) (d : Int) : Bool := !memB (d % 7) rs && !memB d cs
/-- One more day of a term: the next menu, and the menus of all days so far. -/
def rstep (rs cs : List Int) (m k : Int) (s : Int × List Int) (d : Int) : Int × List Int :=
  (if (k = 0 ∧ openB rs cs d = true) ∨ (k = 1 ∧ memB (d % 7) rs = false) then (s.1 + 1) % m else s.1, s.2 ++ [if openB rs cs d then s.1 else -1])
def rst (rs cs : List Int) (m k f : Int) : Nat → Int × List Int
  | 0 => (f, [])
  | n + 1 => rstep rs cs m k (rst rs cs m k f n) (n : Int)
theorem rst_len (rs cs : List Int) (m k f : Int) (n : Nat) : (rst rs cs m k f n).2.length = n := by
  induction n with
  | zero => rfl
  | succ n ih => rw [rst, rstep]; simp [ih]
theorem rst_bd (rs cs : List Int) (m k f : Int) (hm : 1 ≤ m) (h0 : 0 ≤ f) (h1 : f < m) (n : Nat) : 0 ≤ (rst rs cs m k f n).1 ∧ (rst rs cs m k f n).1 < m := by
  induction n with
  | zero => exact ⟨h0, h1⟩
  | succ n ih =>
    rw [rst, rstep]
    dsimp only
    split
    · exact ⟨Int.emod_nonneg _ (by omega), Int.emod_lt_of_pos _ (by omega)⟩
    · exact ih

end Go.Proofs.Ytdgleicpcjfnoaa
