/- Histories and facts up to a minute: plain mathematics. -/
import Derived.Test.YtkepjoociidkcaaOrM
set_option linter.unusedVariables false
namespace Go.Proofs.Ytkepjoociidkcaa

def histTo (l : List Fct) (c d : Int) : Nat → List Fct
  | 0 => []
  | k + 1 => if (fAt l k).c = c ∧ onB (fAt l k) d = true then histTo l c d k ++ [fAt l k] else histTo l c d k
def histR (r : List Kn) (d : Int) : Nat → List Fct
  | 0 => []
  | k + 1 => if onB (kAt r k).1 d = true then histR r d k ++ [(kAt r k).1] else histR r d k
def untilTo (l : List Fct) (at_ : Int) : Nat → List Fct
  | 0 => []
  | k + 1 => if (fAt l k).a ≤ at_ then untilTo l at_ k ++ [fAt l k] else untilTo l at_ k
theorem histTo_len (l : List Fct) (c d : Int) (k : Nat) : (histTo l c d k).length ≤ k := by
  induction k with
  | zero => simp [histTo]
  | succ k ih => unfold histTo; split <;> (try rw [List.length_append, List.length_singleton]) <;> omega
theorem histR_len (r : List Kn) (d : Int) (k : Nat) : (histR r d k).length ≤ k := by
  induction k with
  | zero => simp [histR]
  | succ k ih => unfold histR; split <;> (try rw [List.length_append, List.length_singleton]) <;> omega
theorem untilTo_len (l : List Fct) (at_ : Int) (k : Nat) : (untilTo l at_ k).length ≤ k := by
  induction k with
  | zero => simp [untilTo]
  | succ k ih => unfold untilTo; split <;> (try rw [List.length_append, List.length_singleton]) <;> omega
theorem histR_app (r s : List Kn) (d : Int) (k : Nat) (h : k ≤ r.length) : histR (r ++ s) d k = histR r d k := by
  induction k with
  | zero => rfl
  | succ k ih =>
    unfold histR
    have e : kAt (r ++ s) k = kAt r k := by unfold kAt; rw [List.getElem?_append_left (by omega)]
    rw [e, ih (by omega)]
theorem histR_snoc (r : List Kn) (x : Kn) (d : Int) : histR (r ++ [x]) d (r ++ [x]).length = if onB x.1 d = true then histR r d r.length ++ [x.1] else histR r d r.length := by
  rw [List.length_append, List.length_singleton]
  show (if onB (kAt (r ++ [x]) r.length).1 d = true then histR (r ++ [x]) d r.length ++ [(kAt (r ++ [x]) r.length).1] else histR (r ++ [x]) d r.length) = _
  have e : kAt (r ++ [x]) r.length = x := by unfold kAt; rw [List.getElem?_append_right (by omega)]; simp
  rw [e, histR_app _ _ _ _ (Nat.le_refl _)]
theorem hist_rec (l : List Fct) (c d : Int) (k : Nat) : histR (recTo l c k) d (recTo l c k).length = histTo l c d k := by
  induction k with
  | zero => rfl
  | succ k ih =>
    by_cases h : (fAt l k).c = c
    · have e : recTo l c (k + 1) = recTo l c k ++ [(fAt l k, k)] := by show (if _ then _ else _) = _; rw [if_pos h]
      rw [e, histR_snoc, ih]
      show _ = (if _ then _ else _)
      by_cases h2 : onB (fAt l k) d = true
      · rw [if_pos h2, if_pos ⟨h, h2⟩]
      · rw [if_neg h2, if_neg (fun g => h2 g.2)]
    · have e : recTo l c (k + 1) = recTo l c k := by show (if _ then _ else _) = _; rw [if_neg h]
      rw [e, ih]
      show _ = (if _ then _ else _)
      rw [if_neg (fun g => h g.1)]
theorem take_fAt (l : List Fct) (k : Nat) (h : k < l.length) : l.take (k + 1) = l.take k ++ [fAt l k] := by
  rw [List.take_succ_eq_append_getElem h]
  unfold fAt
  rw [List.getElem?_eq_getElem h]
  rfl
theorem untilTo_lo (l : List Fct) (at_ : Int) (k : Nat) (hk : k ≤ l.length) (h : ∀ i, i < k → (fAt l i).a ≤ at_) : untilTo l at_ k = l.take k := by
  induction k with
  | zero => rfl
  | succ k ih =>
    unfold untilTo
    rw [if_pos (h k (by omega)), ih (by omega) (fun i hi => h i (by omega)), take_fAt l k (by omega)]
theorem untilTo_hi (l : List Fct) (at_ : Int) (n k : Nat) (h : ∀ i, n ≤ i → i < n + k → at_ < (fAt l i).a) : untilTo l at_ (n + k) = untilTo l at_ n := by
  induction k with
  | zero => rfl
  | succ k ih =>
    show (if (fAt l (n + k)).a ≤ at_ then _ else untilTo l at_ (n + k)) = _
    rw [if_neg (by have := h (n + k) (by omega) (by omega); omega), ih (fun i h1 h2 => h i h1 (by omega))]
theorem until_cut {l : List Fct} (hs : ∀ i j, i ≤ j → j < l.length → (fAt l i).a ≤ (fAt l j).a) (at_ : Int) : untilTo l at_ l.length = l.take (cutL at_ l) := by
  have hc := cutL_le at_ l
  rw [show l.length = cutL at_ l + (l.length - cutL at_ l) by omega, untilTo_hi _ _ _ _ (fun i h1 h2 => cutL_behind hs i h1 (by omega)), untilTo_lo _ _ _ hc (cutL_lo at_ l)]
theorem whyTo_take (l : List Fct) (c d : Int) (n k : Nat) (h : k ≤ n) : whyTo (l.take n) c d k = whyTo l c d k := by
  induction k with
  | zero => rfl
  | succ k ih => unfold whyTo; rw [fAt_take l n k (by omega), ih (by omega)]
theorem mealK_take (l : List Fct) (c d : Int) (n k : Nat) (h : k ≤ n) : mealK (l.take n) c d k = mealK l c d k := by
  unfold mealK
  rw [whyTo_take l c d n k h]
  cases hw : whyTo l c d k with
  | none => rfl
  | some i => exact congrArg Fct.m (fAt_take l n i (by have := (whyTo_lt hw).1; omega))
theorem cutL_take (at_ : Int) (l : List Fct) : cutL at_ (l.take (cutL at_ l)) = cutL at_ l := by
  have hc := cutL_le at_ l
  have hl : (l.take (cutL at_ l)).length = cutL at_ l := by simp; omega
  refine (cutL_eq at_ _ _ (by omega) (fun i hi => ?_) (fun h => by omega)).symm
  rw [fAt_take l _ i hi]
  exact cutL_lo at_ l i hi
theorem factsE_take (p : Int) (l : List Fct) (n : Nat) (h : factsE p l = 0) : factsE p (l.take n) = 0 := by
  induction l generalizing p n with
  | nil => simp [factsE]
  | cons x r ih =>
    cases n with
    | zero => rfl
    | succ n =>
      unfold factsE at h
      split at h
      · omega
      · rename_i h1
        split at h
        · omega
        · rename_i h2
          show (if factB x = false then 1 else if x.a < p then 7 else factsE x.a (r.take n)) = 0
          rw [if_neg h1, if_neg h2]
          exact ih _ _ h
theorem validE_take (l : List Fct) (n : Nat) (h : validE l = 0) : validE (l.take n) = 0 := by
  have h60 := (validE_ok h).1
  unfold validE at h ⊢
  rw [if_neg (by omega)] at h
  rw [if_neg (by simp; omega)]
  exact factsE_take 0 l n h
end Go.Proofs.Ytkepjoociidkcaa
