/- Sets that are kept as lists of marks, and what the document's own inside and base are: plain facts. -/
import Derived.Test.YtdgleicpcjfnoaaClosM
set_option linter.unusedVariables false
namespace Go.Proofs.Ytdgleicpcjfnoaa

/-- The marks of a set, for the numbers below n. -/
def boolsOf (M n : Nat) : List Bool := (List.range n).map (fun i => M.testBit i)
theorem boolsOf_len (M n : Nat) : (boolsOf M n).length = n := by simp [boolsOf]
theorem boolsOf_at (M n i : Nat) (h : i < n) : (boolsOf M n)[i]? = some (M.testBit i) := by simp [boolsOf, h]
theorem boolsOf_zero (n : Nat) : boolsOf 0 n = List.replicate n false := by
  apply List.ext_getElem?
  intro i
  by_cases h : i < n
  · rw [boolsOf_at _ _ _ h]; simp [h]
  · rw [List.getElem?_eq_none (by simp [boolsOf]; omega), List.getElem?_eq_none (by simp; omega)]
theorem boolsOf_set (M n x : Nat) : (boolsOf M n).set x true = boolsOf (M ||| 2 ^ x) n := by
  apply List.ext_getElem?
  intro i
  by_cases h : i < n
  · rw [boolsOf_at _ _ _ h, List.getElem?_set, boolsOf_at _ _ _ h, Nat.testBit_or, Nat.testBit_two_pow]
    by_cases e : x = i
    · subst e; simp [h, boolsOf_len]
    · simp [e]
  · rw [List.getElem?_eq_none (by simp [boolsOf]; omega), List.getElem?_eq_none (by simp [boolsOf]; omega)]
theorem maskFrom_or (m : Nat) (l : List Int) : maskFrom m l = m ||| maskL l := by
  apply Nat.eq_of_testBit_eq
  intro i
  rw [Nat.testBit_or, testBit_maskFrom, testBit_maskL]
theorem or_take (m : Nat) (l : List Int) (k : Nat) (h : k < l.length) : m ||| maskL (l.take (k + 1)) = (m ||| maskL (l.take k)) ||| 2 ^ (l[k]?.getD 0).toNat := by
  rw [maskL_take l k h, Nat.or_assoc]
theorem contTo_step (its : List ItemL) (M k : Nat) : contTo its M (k + 1) = contTo its (if M.testBit k then M ||| maskL (its[k]?.getD ([], [])).1 else M) k := rfl

/-- What the items of a set have by themselves, those below k looked at. -/
def baseTo (its : List ItemL) (C : Nat) : Nat → Nat
  | 0 => 0
  | k + 1 => if C.testBit k then baseTo its C k ||| maskL (its[k]?.getD ([], [])).2 else baseTo its C k
theorem baseTo_bit (its : List ItemL) (C k p : Nat) : (baseTo its C k).testBit p = true ↔ ∃ i, i < k ∧ C.testBit i = true ∧ ∃ x ∈ (its[i]?.getD ([], [])).2, x.toNat = p := by
  induction k with
  | zero => simp [baseTo]
  | succ k ih =>
    rw [baseTo]
    constructor
    · intro h
      split at h
      · rename_i hc
        rw [Nat.testBit_or, Bool.or_eq_true, ih, testBit_maskL, decide_eq_true_iff] at h
        rcases h with ⟨i, h1, h2⟩ | h
        · exact ⟨i, by omega, h2⟩
        · exact ⟨k, by omega, hc, h⟩
      · obtain ⟨i, h1, h2⟩ := ih.1 h; exact ⟨i, by omega, h2⟩
    · rintro ⟨i, h1, h2, h3⟩
      by_cases e : i = k
      · subst e
        rw [if_pos h2, Nat.testBit_or, Bool.or_eq_true, testBit_maskL, decide_eq_true_iff]
        exact .inr h3
      · have := ih.2 ⟨i, by omega, h2, h3⟩
        split
        · rw [Nat.testBit_or, this]; rfl
        · exact this
theorem propsL_mem (l : List StepL) (i : Nat) : (propsL l).testBit i = true ↔ ∃ s ∈ l, s.1.toNat = i := by
  suffices H : ∀ m, (propsFrom m l).testBit i = (m.testBit i || decide (∃ s ∈ l, s.1.toNat = i)) from by rw [propsL, H]; simp
  induction l with
  | nil => simp [propsFrom]
  | cons x t ih =>
    intro m
    have := ih (m ||| 2 ^ x.1.toNat)
    rw [propsFrom, List.foldl_cons]
    rw [propsFrom] at this
    rw [this, Nat.testBit_or, Nat.testBit_two_pow, Bool.or_assoc]
    congr 1
    rw [← Bool.decide_or, decide_eq_decide]
    simp
theorem or_same {M p : Nat} (h : M.testBit p = true) : M ||| 2 ^ p = M := by
  apply Nat.eq_of_testBit_eq
  intro i
  rw [Nat.testBit_or, Nat.testBit_two_pow]
  by_cases e : p = i
  · subst e; simp [h]
  · simp [e]
theorem propsL_ownAdd (frm : Int) (acc : List StepL) (p : Int) : propsL (ownAdd frm acc p) = propsL acc ||| 2 ^ p.toNat := by
  unfold ownAdd
  split
  · rename_i h; exact (or_same h).symm
  · exact propsL_snoc _ _
theorem propsL_ownHas (frm : Int) (acc : List StepL) (hs : List Int) : propsL (ownHas frm acc hs) = propsL acc ||| maskL hs := by
  induction hs generalizing acc with
  | nil => simp [ownHas, maskL, maskFrom]
  | cons x t ih =>
    have := ih (ownAdd frm acc x)
    rw [ownHas] at this
    rw [ownHas, List.foldl_cons, this, propsL_ownAdd, Nat.or_assoc]
    congr 1
    rw [show maskL (x :: t) = maskFrom (0 ||| 2 ^ x.toNat) t from rfl, maskFrom_or, Nat.zero_or]
theorem propsL_ownAll (its : List ItemL) (acc : List StepL) (fs : List Int) (p : Nat) : (propsL (ownAll its acc fs)).testBit p = true ↔ (propsL acc).testBit p = true ∨ ∃ f ∈ fs, ∃ x ∈ (its[f.toNat]?.getD ([], [])).2, x.toNat = p := by
  induction fs generalizing acc with
  | nil => simp [ownAll]
  | cons f t ih =>
    have := ih (ownItem its acc f)
    rw [ownAll] at this
    rw [ownAll, List.foldl_cons, this, ownItem, propsL_ownHas, Nat.testBit_or, Bool.or_eq_true, testBit_maskL, decide_eq_true_iff, or_assoc]
    simp
theorem base_own (its : List ItemL) (item : Nat) (hb : ∀ i, (contL its item).testBit i = true → i < its.length) (hl : its.length ≤ 64) : baseTo its (contL its item) its.length = propsL (ownL its item) := by
  apply Nat.eq_of_testBit_eq
  intro p
  rw [Bool.eq_iff_iff, baseTo_bit, ownL, propsL_ownAll]
  constructor
  · rintro ⟨i, h1, h2, h3⟩
    exact .inr ⟨(i : Int), (mem_bitsTo _ _ _).2 ⟨i, rfl, by omega, h2⟩, by simpa using h3⟩
  · rintro (h | ⟨f, hf, h3⟩)
    · simp [propsL, propsFrom] at h
    · obtain ⟨i, rfl, h1, h2⟩ := (mem_bitsTo _ _ _).1 hf
      exact ⟨i, hb i h2, h2, by simpa using h3⟩
/-- Are all numbers of a list in a set? -/
def allM (M : Nat) (l : List Int) : Bool := l.all (fun x => M.testBit x.toNat)
theorem allM_iff (M : Nat) (l : List Int) : allM M l = true ↔ ∀ x ∈ l, M.testBit x.toNat = true := by simp [allM]
theorem allM_drop (M : Nat) (xs : List Int) (k : Nat) (h : k < xs.length) : allM M (xs.drop k) = (M.testBit (xs[k]?.getD 0).toNat && allM M (xs.drop (k + 1))) := by
  rw [List.drop_eq_getElem_cons h, allM, List.all_cons]; simp [h, allM]
theorem fires_allM {M : Nat} {r : RuleL} (hs : ∀ x ∈ r.1, 0 ≤ x ∧ x < 10) (hM : M < 2 ^ 10) : fires M r = (!M.testBit r.2.toNat && allM M r.1) := by
  rw [Bool.eq_iff_iff, fires_iff hs hM, Bool.and_eq_true, allM_iff]
  simp
end Go.Proofs.Ytdgleicpcjfnoaa
