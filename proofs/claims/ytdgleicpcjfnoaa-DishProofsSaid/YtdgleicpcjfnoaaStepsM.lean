/- Steps of proofs, what an item contains, closures: plain functions. -/
import Derived.Test.YtdgleicpcjfnoaaBookM
import Derived.Test.YtdgleicpcjfnoaaMaskM
set_option linter.unusedVariables false
namespace Go.Proofs.Ytdgleicpcjfnoaa

abbrev StepL := Int × Int × Int
def propsFrom (m : Nat) (st : List StepL) : Nat := st.foldl (fun m s => m ||| 2 ^ s.1.toNat) m
def propsL (st : List StepL) : Nat := propsFrom 0 st
theorem propsL_take (l : List StepL) (k : Nat) (h : k < l.length) : propsL (l.take (k + 1)) = propsL (l.take k) ||| 2 ^ (l[k]?.getD (0, 0, 0)).1.toNat := by
  rw [List.take_succ_eq_append_getElem h, propsL, propsL, propsFrom, propsFrom, List.foldl_append, List.getElem?_eq_getElem h]; rfl
theorem propsL_snoc (l : List StepL) (s : StepL) : propsL (l ++ [s]) = propsL l ||| 2 ^ s.1.toNat := by simp [propsL, propsFrom, List.foldl_append]
theorem propsFrom_lt (n m : Nat) (l : List StepL) (hm : m < 2 ^ n) (h : ∀ s ∈ l, s.1.toNat < n) : propsFrom m l < 2 ^ n := by
  induction l generalizing m with
  | nil => exact hm
  | cons x t ih => exact ih _ (Nat.or_lt_two_pow hm (Nat.pow_lt_pow_right (by omega) (h x (by simp)))) (fun y hy => h y (by simp [hy]))
theorem propsL_lt (n : Nat) (l : List StepL) (h : ∀ s ∈ l, s.1.toNat < n) : propsL l < 2 ^ n := propsFrom_lt n 0 l (Nat.two_pow_pos n) h
/-- Steps whose properties are below n. -/
def StepsOk (n : Int) (l : List StepL) : Prop := ∀ s ∈ l, 0 ≤ s.1 ∧ s.1 < n

/-- What an item contains: the places below k are still to be looked at. -/
def contTo (its : List ItemL) (M : Nat) : Nat → Nat
  | 0 => M
  | k + 1 => contTo its (if M.testBit k then M ||| maskL (its[k]?.getD ([], [])).1 else M) k
def contL (its : List ItemL) (item : Nat) : Nat := contTo its (2 ^ item) (item + 1)

/-- The steps for what an item has by itself. -/
def ownAdd (frm : Int) (acc : List StepL) (p : Int) : List StepL := if (propsL acc).testBit p.toNat then acc else acc ++ [(p, frm, -1)]
def ownHas (frm : Int) (acc : List StepL) (hs : List Int) : List StepL := hs.foldl (ownAdd frm) acc
def ownItem (its : List ItemL) (acc : List StepL) (frm : Int) : List StepL := ownHas frm acc (its[frm.toNat]?.getD ([], [])).2
def ownAll (its : List ItemL) (acc : List StepL) (fs : List Int) : List StepL := fs.foldl (ownItem its) acc
def ownL (its : List ItemL) (item : Nat) : List StepL := ownAll its [] (bitsTo (contL its item) 64)
theorem ownHas_take (frm : Int) (acc : List StepL) (hs : List Int) (k : Nat) (h : k < hs.length) : ownHas frm acc (hs.take (k + 1)) = ownAdd frm (ownHas frm acc (hs.take k)) (hs[k]?.getD 0) := by
  rw [List.take_succ_eq_append_getElem h, ownHas, ownHas, List.foldl_append, List.getElem?_eq_getElem h]; rfl
theorem ownAll_take (its : List ItemL) (acc : List StepL) (fs : List Int) (k : Nat) (h : k < fs.length) : ownAll its acc (fs.take (k + 1)) = ownItem its (ownAll its acc (fs.take k)) (fs[k]?.getD 0) := by
  rw [List.take_succ_eq_append_getElem h, ownAll, ownAll, List.foldl_append, List.getElem?_eq_getElem h]; rfl

/-- The first rule from place k on that gives something new. -/
def fires (M : Nat) (r : RuleL) : Bool := !M.testBit r.2.toNat && decide (maskL r.1 &&& (2 ^ 64 - 1 - M) = 0)
def findRule (M : Nat) : List RuleL → Nat → Option (Nat × Int)
  | [], _ => none
  | r :: t, k => if fires M r then some (k, r.2) else findRule M t (k + 1)
theorem findRule_drop (M : Nat) (rls : List RuleL) (k : Nat) (h : k < rls.length) : findRule M (rls.drop k) k = if fires M (rls[k]?.getD ([], 0)) then some (k, (rls[k]?.getD ([], 0)).2) else findRule M (rls.drop (k + 1)) (k + 1) := by
  rw [List.drop_eq_getElem_cons h, findRule]; simp [h]
def ruleRun (rls : List RuleL) : Nat → List StepL → Nat → List StepL
  | 0, st, _ => st
  | f + 1, st, M => match findRule M rls 0 with
    | none => st
    | some (k, p) => ruleRun rls f (st ++ [(p, -1, (k : Int))]) (M ||| 2 ^ p.toNat)
theorem ruleRun_stop (rls : List RuleL) (f : Nat) (st : List StepL) (M : Nat) (h : findRule M rls 0 = none) : ruleRun rls f st M = st := by
  cases f with
  | zero => rfl
  | succ f => rw [ruleRun, h]
theorem ruleRun_go (rls : List RuleL) (f : Nat) (st : List StepL) (M k : Nat) (p : Int) (h : findRule M rls 0 = some (k, p)) : ruleRun rls (f + 1) st M = ruleRun rls f (st ++ [(p, -1, (k : Int))]) (M ||| 2 ^ p.toNat) := by
  rw [ruleRun, h]
/-- How many of the numbers below n are in a set. -/
def cntBits (M : Nat) : Nat → Nat
  | 0 => 0
  | n + 1 => cntBits M n + if M.testBit n then 1 else 0
theorem cntBits_le (M n : Nat) : cntBits M n ≤ n := by
  induction n with
  | zero => simp [cntBits]
  | succ n ih => rw [cntBits]; split <;> omega
theorem cntBits_with (M n p : Nat) (hb : M.testBit p = false) : cntBits (M ||| 2 ^ p) n = cntBits M n + if p < n then 1 else 0 := by
  induction n with
  | zero => simp [cntBits]
  | succ n ih =>
    rw [cntBits, cntBits, ih, Nat.testBit_or, Nat.testBit_two_pow]
    by_cases e : p = n
    · subst e; simp [hb]
    · by_cases h : p < n
      · simp [e, h, show p < n + 1 by omega]; omega
      · simp [e, h, show ¬ p < n + 1 by omega]
def ruleL (rls : List RuleL) (M : Nat) : List StepL := ruleRun rls 11 [] M
def closL (rls : List RuleL) (M : Nat) : Nat := M ||| propsL (ruleL rls M)
def labM (its : List ItemL) (rls : List RuleL) (item : Nat) : Nat := closL rls (propsL (ownL its item))
def labelL (P : Int) (its : List ItemL) (rls : List RuleL) (item : Int) : List Int × Int :=
  if checkIt P its rls item ≠ 0 then ([], checkIt P its rls item) else (bitsTo (labM its rls item.toNat) 64, 0)

theorem findRule_mem (M : Nat) (rls : List RuleL) (k j : Nat) (p : Int) (h : findRule M rls k = some (j, p)) : k ≤ j ∧ j < k + rls.length ∧ (rls[j - k]?.getD ([], 0)).2 = p ∧ M.testBit p.toNat = false := by
  induction rls generalizing k with
  | nil => simp [findRule] at h
  | cons r t ih =>
    rw [findRule] at h
    split at h
    · rename_i hf
      simp at h
      obtain ⟨rfl, rfl⟩ := h
      refine ⟨Nat.le_refl _, by simp, by simp, ?_⟩
      rw [fires, Bool.and_eq_true] at hf
      simpa using hf.1
    · obtain ⟨h1, h2, h3, h4⟩ := ih (k + 1) h
      refine ⟨by omega, by simp; omega, ?_, h4⟩
      rw [show j - k = (j - (k + 1)) + 1 by omega]
      simpa using h3

end Go.Proofs.Ytdgleicpcjfnoaa
