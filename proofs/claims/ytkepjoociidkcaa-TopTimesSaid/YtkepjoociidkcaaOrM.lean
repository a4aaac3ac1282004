/- Tables of facts, what is known, records, spans: plain mathematics. -/
set_option linter.unusedVariables false
namespace Go.Proofs.Ytkepjoociidkcaa

/-- A fact: its minute, child, first day, day behind the last, meal. -/
structure Fct where
  a : Int
  c : Int
  f : Int
  t : Int
  m : Int
def fct0 : Fct := ⟨0, 0, 0, 0, 0⟩
/-- The fact number i. -/
def fAt (l : List Fct) (i : Nat) : Fct := l[i]?.getD fct0
theorem fAt_mem (l : List Fct) (i : Nat) (h : i < l.length) : fAt l i ∈ l := by
  unfold fAt; rw [List.getElem?_eq_getElem h]; simp
theorem fAt_app (l r : List Fct) (i : Nat) (h : i < l.length) : fAt (l ++ r) i = fAt l i := by
  unfold fAt; rw [List.getElem?_append_left h]
theorem fAt_drop (l : List Fct) (k : Nat) (h : k < l.length) : l.drop k = fAt l k :: l.drop (k + 1) := by
  unfold fAt; rw [List.drop_eq_getElem_cons h, List.getElem?_eq_getElem h]; rfl
theorem fAt_take (l : List Fct) (n i : Nat) (h : i < n) : fAt (l.take n) i = fAt l i := by
  unfold fAt; rw [List.getElem?_take_of_lt h]

def inI (x lo hi : Int) : Bool := decide (lo ≤ x) && decide (x ≤ hi)
def strB (f t : Int) : Bool := decide (0 ≤ f) && (decide (f ≤ t) && decide (t ≤ 1000))
def factB (f : Fct) : Bool := inI f.a 0 1440000 && (inI f.c 0 99 && (strB f.f f.t && (decide (f.f < f.t) && inI f.m 0 9)))
theorem inI_iff {x lo hi : Int} : inI x lo hi = true ↔ lo ≤ x ∧ x ≤ hi := by simp [inI]
theorem strB_iff {f t : Int} : strB f t = true ↔ 0 ≤ f ∧ f ≤ t ∧ t ≤ 1000 := by simp [strB]
theorem factB_iff {f : Fct} : factB f = true ↔ (0 ≤ f.a ∧ f.a ≤ 1440000) ∧ (0 ≤ f.c ∧ f.c ≤ 99) ∧ (0 ≤ f.f ∧ f.f < f.t ∧ f.t ≤ 1000) ∧ 0 ≤ f.m ∧ f.m ≤ 9 := by
  simp [factB, inI, strB]; omega

/-- The first error of facts behind a fact of the minute p. -/
def factsE (p : Int) : List Fct → Int
  | [] => 0
  | f :: r => if factB f = false then 1 else if f.a < p then 7 else factsE f.a r
def validE (l : List Fct) : Int := if 60 < l.length then 4 else factsE 0 l
/-- The minute before the fact number k. -/
def prevA (l : List Fct) : Nat → Int
  | 0 => 0
  | k + 1 => (fAt l k).a
theorem factsE_drop (l : List Fct) (k : Nat) (h : k < l.length) : factsE (prevA l k) (l.drop k) = if factB (fAt l k) = false then 1 else if (fAt l k).a < prevA l k then 7 else factsE (prevA l (k + 1)) (l.drop (k + 1)) := by
  rw [fAt_drop l k h]; rfl
theorem factsE_ok (p : Int) (l : List Fct) (h : factsE p l = 0) : (∀ f ∈ l, factB f = true) ∧ (∀ i, i < l.length → p ≤ (fAt l i).a) ∧ (∀ i j, i ≤ j → j < l.length → (fAt l i).a ≤ (fAt l j).a) := by
  induction l generalizing p with
  | nil => exact ⟨by simp, by simp, by simp⟩
  | cons x r ih =>
    unfold factsE at h
    split at h
    · omega
    · rename_i hx
      split at h
      · omega
      · rename_i hp
        obtain ⟨h1, h2, h3⟩ := ih _ h
        refine ⟨?_, ?_, ?_⟩
        · intro f hf
          rcases List.mem_cons.1 hf with rfl | hf
          · simpa using hx
          · exact h1 f hf
        · intro i hi
          cases i with
          | zero => show p ≤ x.a; omega
          | succ i => have := h2 i (by simpa using hi); show p ≤ (fAt r i).a; omega
        · intro i j hij hj
          cases j with
          | zero => obtain rfl : i = 0 := by omega
                    exact Int.le_refl _
          | succ j =>
            cases i with
            | zero => exact h2 j (by simpa using hj)
            | succ i => exact h3 i j (by omega) (by simpa using hj)
theorem validE_ok {l : List Fct} (h : validE l = 0) : l.length ≤ 60 ∧ (∀ f ∈ l, factB f = true) ∧ (∀ i j, i ≤ j → j < l.length → (fAt l i).a ≤ (fAt l j).a) := by
  unfold validE at h
  split at h
  · omega
  · obtain ⟨h1, _, h3⟩ := factsE_ok 0 l h
    exact ⟨by omega, h1, h3⟩

/-- How many facts are written at a minute. -/
def cutL (at_ : Int) : List Fct → Nat
  | [] => 0
  | f :: r => if f.a ≤ at_ then cutL at_ r + 1 else 0
theorem cutL_le (at_ : Int) (l : List Fct) : cutL at_ l ≤ l.length := by
  induction l with
  | nil => simp [cutL]
  | cons x r ih => unfold cutL; split <;> simp <;> omega
theorem cutL_lo (at_ : Int) (l : List Fct) (i : Nat) (h : i < cutL at_ l) : (fAt l i).a ≤ at_ := by
  induction l generalizing i with
  | nil => simp [cutL] at h
  | cons x r ih =>
    unfold cutL at h
    split at h
    · rename_i hx
      cases i with
      | zero => exact hx
      | succ i => exact ih i (by omega)
    · omega
theorem cutL_hi (at_ : Int) (l : List Fct) (h : cutL at_ l < l.length) : at_ < (fAt l (cutL at_ l)).a := by
  induction l with
  | nil => simp at h
  | cons x r ih =>
    unfold cutL at h ⊢
    split at h
    · rename_i hx
      rw [if_pos hx]
      exact ih (by simpa using h)
    · rename_i hx
      rw [if_neg hx]
      show at_ < x.a
      omega
theorem cutL_eq (at_ : Int) (l : List Fct) (n : Nat) (h0 : n ≤ l.length) (h1 : ∀ i, i < n → (fAt l i).a ≤ at_) (h2 : n < l.length → at_ < (fAt l n).a) : n = cutL at_ l := by
  rcases Nat.lt_trichotomy n (cutL at_ l) with h | h | h
  · have a1 := cutL_lo at_ l n h
    have a2 := h2 (by have := cutL_le at_ l; omega)
    omega
  · exact h
  · have a1 := h1 _ h
    have a2 := cutL_hi at_ l (by omega)
    omega
theorem cutL_behind {at_ : Int} {l : List Fct} (hs : ∀ i j, i ≤ j → j < l.length → (fAt l i).a ≤ (fAt l j).a) (i : Nat) (h : cutL at_ l ≤ i) (hi : i < l.length) : at_ < (fAt l i).a := by
  have := cutL_hi at_ l (by omega)
  have := hs _ i h hi
  omega

/-- What is known of one child: facts and their numbers. -/
abbrev Kn := Fct × Nat
def kn0 : Kn := (fct0, 0)
def kAt (r : List Kn) (i : Nat) : Kn := r[i]?.getD kn0
def onB (f : Fct) (d : Int) : Bool := decide (f.f ≤ d) && decide (d < f.t)
def recTo (l : List Fct) (c : Int) : Nat → List Kn
  | 0 => []
  | k + 1 => if (fAt l k).c = c then recTo l c k ++ [(fAt l k, k)] else recTo l c k
def lastTo (r : List Kn) (d : Int) : Nat → Option Kn
  | 0 => none
  | k + 1 => if onB (kAt r k).1 d = true then some (kAt r k) else lastTo r d k
def lastK (r : List Kn) (d : Int) : Option Kn := lastTo r d r.length
/-- The last one of the first k facts that covers a child and a day. -/
def whyTo (l : List Fct) (c d : Int) : Nat → Option Nat
  | 0 => none
  | k + 1 => if (fAt l k).c = c ∧ onB (fAt l k) d = true then some k else whyTo l c d k
theorem recTo_len (l : List Fct) (c : Int) (k : Nat) : (recTo l c k).length ≤ k := by
  induction k with
  | zero => simp [recTo]
  | succ k ih => unfold recTo; split <;> (try rw [List.length_append, List.length_singleton]) <;> omega
theorem lastTo_app (r s : List Kn) (d : Int) (k : Nat) (h : k ≤ r.length) : lastTo (r ++ s) d k = lastTo r d k := by
  induction k with
  | zero => rfl
  | succ k ih =>
    unfold lastTo
    have e : kAt (r ++ s) k = kAt r k := by unfold kAt; rw [List.getElem?_append_left (by omega)]
    rw [e, ih (by omega)]
theorem lastK_snoc (r : List Kn) (x : Kn) (d : Int) : lastK (r ++ [x]) d = if onB x.1 d = true then some x else lastK r d := by
  unfold lastK
  rw [List.length_append, List.length_singleton]
  show (if onB (kAt (r ++ [x]) r.length).1 d = true then some (kAt (r ++ [x]) r.length) else lastTo (r ++ [x]) d r.length) = _
  have e : kAt (r ++ [x]) r.length = x := by unfold kAt; rw [List.getElem?_append_right (by omega)]; simp
  rw [e, lastTo_app _ _ _ _ (Nat.le_refl _)]
theorem lastK_rec (l : List Fct) (c d : Int) (k : Nat) : lastK (recTo l c k) d = (whyTo l c d k).map (fun i => (fAt l i, i)) := by
  induction k with
  | zero => rfl
  | succ k ih =>
    unfold recTo whyTo
    by_cases h : (fAt l k).c = c
    · rw [if_pos h, lastK_snoc, ih]
      by_cases h2 : onB (fAt l k) d = true
      · rw [if_pos h2, if_pos ⟨h, h2⟩]; rfl
      · rw [if_neg h2, if_neg (fun g => h2 g.2)]
    · rw [if_neg h, if_neg (fun g => h g.1), ih]
theorem whyTo_lt {l : List Fct} {c d : Int} {k i : Nat} (h : whyTo l c d k = some i) : i < k ∧ (fAt l i).c = c ∧ onB (fAt l i) d = true := by
  induction k with
  | zero => simp [whyTo] at h
  | succ k ih =>
    unfold whyTo at h
    split at h
    · rename_i hh
      obtain rfl : k = i := by simpa using h
      exact ⟨by omega, hh⟩
    · have := ih h
      exact ⟨by omega, this.2⟩
/-- The meal that is known by the first n facts. -/
def mealK (l : List Fct) (c d : Int) (n : Nat) : Int := match whyTo l c d n with | none => 0 | some i => (fAt l i).m
def mealR (r : List Kn) (d : Int) : Int := match lastK r d with | none => 0 | some k => k.1.m
theorem mealR_rec (l : List Fct) (c d : Int) (k : Nat) : mealR (recTo l c k) d = mealK l c d k := by
  unfold mealR mealK
  rw [lastK_rec]
  cases whyTo l c d k <;> rfl

/-- The document's way: the last fact of the list whose minute is at most at. -/
def refTo (l : List Fct) (at_ c d : Int) : Nat → Int
  | 0 => -1
  | k + 1 => if (fAt l k).a ≤ at_ ∧ (fAt l k).c = c ∧ (fAt l k).f ≤ d ∧ d < (fAt l k).t then (k : Int) else refTo l at_ c d k
def whyI : Option Nat → Int
  | none => -1
  | some i => (i : Int)
theorem refTo_lo (l : List Fct) (at_ c d : Int) (k : Nat) (h : ∀ i, i < k → (fAt l i).a ≤ at_) : refTo l at_ c d k = whyI (whyTo l c d k) := by
  induction k with
  | zero => rfl
  | succ k ih =>
    unfold refTo whyTo
    rw [ih (fun i hi => h i (by omega))]
    have e : ((fAt l k).a ≤ at_ ∧ (fAt l k).c = c ∧ (fAt l k).f ≤ d ∧ d < (fAt l k).t) ↔ ((fAt l k).c = c ∧ onB (fAt l k) d = true) := by
      have := h k (by omega)
      simp [onB]
      omega
    by_cases g : (fAt l k).c = c ∧ onB (fAt l k) d = true
    · rw [if_pos g, if_pos (e.2 g)]; rfl
    · rw [if_neg g, if_neg (fun x => g (e.1 x))]
theorem refTo_hi (l : List Fct) (at_ c d : Int) (n k : Nat) (h : ∀ i, n ≤ i → i < n + k → at_ < (fAt l i).a) : refTo l at_ c d (n + k) = refTo l at_ c d n := by
  induction k with
  | zero => rfl
  | succ k ih =>
    show (if (fAt l (n + k)).a ≤ at_ ∧ (fAt l (n + k)).c = c ∧ (fAt l (n + k)).f ≤ d ∧ d < (fAt l (n + k)).t then ((n + k : Nat) : Int) else refTo l at_ c d (n + k)) = _
    rw [if_neg (by have := h (n + k) (by omega) (by omega); omega), ih (fun i h1 h2 => h i h1 (by omega))]
theorem refTo_cut {l : List Fct} (hs : ∀ i j, i ≤ j → j < l.length → (fAt l i).a ≤ (fAt l j).a) (at_ c d : Int) : refTo l at_ c d l.length = whyI (whyTo l c d (cutL at_ l)) := by
  have hc := cutL_le at_ l
  rw [show l.length = cutL at_ l + (l.length - cutL at_ l) by omega, refTo_hi _ _ _ _ _ _ (fun i h1 h2 => cutL_behind hs i h1 (by omega)), refTo_lo _ _ _ _ _ (cutL_lo at_ l)]
def refMeal (l : List Fct) (at_ c d : Int) : Int := if refTo l at_ c d l.length < 0 then 0 else (fAt l (refTo l at_ c d l.length).toNat).m
theorem refMeal_cut {l : List Fct} (hs : ∀ i j, i ≤ j → j < l.length → (fAt l i).a ≤ (fAt l j).a) (at_ c d : Int) : refMeal l at_ c d = mealK l c d (cutL at_ l) := by
  unfold refMeal mealK
  rw [refTo_cut hs]
  cases whyTo l c d (cutL at_ l) with
  | none => rfl
  | some i => show (if (i : Int) < 0 then 0 else _) = _; rw [if_neg (by omega)]; rfl

/-- A span of days and its meal. -/
structure Spn where
  f : Int
  t : Int
  m : Int
def spn0 : Spn := ⟨0, 0, 0⟩
def sAt (s : List Spn) (i : Nat) : Spn := s[i]?.getD spn0
/-- One day more. -/
def addDay (s : List Spn) (d m : Int) : List Spn :=
  if 0 < s.length ∧ (sAt s (s.length - 1)).t = d ∧ (sAt s (s.length - 1)).m = m then s.set (s.length - 1) ⟨(sAt s (s.length - 1)).f, (sAt s (s.length - 1)).t + 1, (sAt s (s.length - 1)).m⟩ else s ++ [⟨d, d + 1, m⟩]
/-- The spans of the first k days; g tells what there is on a day. -/
def spTo (g : Int → Option Int) : Nat → List Spn
  | 0 => []
  | k + 1 => match g (k : Int) with
    | none => spTo g k
    | some m => addDay (spTo g k) (k : Int) m
theorem addDay_len (s : List Spn) (d m : Int) : (addDay s d m).length ≤ s.length + 1 := by
  unfold addDay; split <;> simp
theorem spTo_len (g : Int → Option Int) (k : Nat) : (spTo g k).length ≤ k := by
  induction k with
  | zero => simp [spTo]
  | succ k ih =>
    unfold spTo
    split
    · omega
    · have := addDay_len (spTo g k) (k : Int) (by assumption); omega
theorem spTo_congr {g h : Int → Option Int} (k : Nat) (e : ∀ i : Nat, i < k → g (i : Int) = h (i : Int)) : spTo g k = spTo h k := by
  induction k with
  | zero => rfl
  | succ k ih => unfold spTo; rw [e k (by omega), ih (fun i hi => e i (by omega))]
/-- The days on which there is a meal. -/
def gMeal (l : List Fct) (c : Int) (n : Nat) (d : Int) : Option Int := if mealK l c d n = 0 then none else some (mealK l c d n)
/-- The days on which another meal is known by the first n facts than by the first b. -/
def gDiff (l : List Fct) (c : Int) (b n : Nat) (d : Int) : Option Int := if mealK l c d n = mealK l c d b then none else some (mealK l c d n)
end Go.Proofs.Ytkepjoociidkcaa
