/- What was known stays known: plain facts. -/
import Derived.Test.YtkepjoociidkcaaOrCmp
import Derived.Test.YtkepjoociidkcaaOrderCompactsW
import Derived.Test.YtkepjoociidkcaaOrPayM
set_option linter.unusedVariables false
namespace Go.Proofs.Ytkepjoociidkcaa
open Go.RowKit

theorem fAt_snoc (l : List Fct) (x : Fct) (i : Nat) (h : i < l.length) : fAt (l ++ [x]) i = fAt l i := fAt_app l [x] i h
theorem fAt_snoc_last (l : List Fct) (x : Fct) : fAt (l ++ [x]) l.length = x := by
  unfold fAt; rw [List.getElem?_append_right (Nat.le_refl _)]; simp
theorem whyTo_snoc (l : List Fct) (x : Fct) (c d : Int) (k : Nat) (h : k ≤ l.length) : whyTo (l ++ [x]) c d k = whyTo l c d k := by
  induction k with
  | zero => rfl
  | succ k ih => unfold whyTo; rw [fAt_snoc l x k (by omega), ih (by omega)]
theorem mealK_snoc (l : List Fct) (x : Fct) (c d : Int) (k : Nat) (h : k ≤ l.length) : mealK (l ++ [x]) c d k = mealK l c d k := by
  unfold mealK
  rw [whyTo_snoc l x c d k h]
  cases hw : whyTo l c d k with
  | none => rfl
  | some i => exact congrArg Fct.m (fAt_snoc l x i (by have := (whyTo_lt hw).1; omega))
theorem cutL_snoc (l : List Fct) (x : Fct) (at_ : Int) (h : at_ < x.a) : cutL at_ (l ++ [x]) = cutL at_ l := by
  have hc := cutL_le at_ l
  refine (cutL_eq at_ (l ++ [x]) (cutL at_ l) (by simp; omega) (fun i hi => ?_) (fun h2 => ?_)).symm
  · rw [fAt_snoc l x i (by omega)]; exact cutL_lo at_ l i hi
  · by_cases e : cutL at_ l = l.length
    · rw [e, fAt_snoc_last]; exact h
    · rw [fAt_snoc l x _ (by omega)]; exact cutL_hi at_ l (by omega)
theorem ask_valid {l r : List Fct} (h : validE l = 0) (h2 : validE r = 0) (c d : Int) : askE l c d = askE r c d := by unfold askE chkE; rw [if_pos h, if_pos h2]
theorem known_more {l : List Fct} {x : Fct} (h : validE l = 0) (h2 : validE (l ++ [x]) = 0) (at_ c d : Int) (ha : at_ < x.a) : knownL (l ++ [x]) at_ c d = knownL l at_ c d := by
  unfold knownL
  rw [ask_valid h2 h, cutL_snoc l x at_ ha, mealK_snoc l x c d _ (cutL_le at_ l)]
theorem known_err {l : List Fct} (h : validE l = 0) (at_ c d : Int) : (knownL l at_ c d).2 = 0 ∨ (knownL l at_ c d).2 = 1 := by
  unfold knownL askE chkE
  rw [if_pos h]
  cases inI c 0 99 && inI d 0 999
  · right; rfl
  · left; rfl
theorem known_ask {l : List Fct} {at_ c d : Int} (h : (knownL l at_ c d).2 = 0) : askE l c d = 0 ∧ (knownL l at_ c d).1 = mealK l c d (cutL at_ l) := by
  unfold knownL at h ⊢
  by_cases h0 : askE l c d = 0
  · rw [if_pos h0]; exact ⟨h0, rfl⟩
  · rw [if_neg h0] at h; exact absurd h h0
theorem known_val {l : List Fct} {c d : Int} (h : askE l c d = 0) (at_ : Int) : knownL l at_ c d = (mealK l c d (cutL at_ l), 0) := if_pos h
theorem until_all {l : List Fct} (h : validE l = 0) (at_ c d : Int) : knownL (l.take (cutL at_ l)) 1440000 c d = knownL l at_ c d := by
  have hv := validE_take l (cutL at_ l) h
  have hc := cut_all (validE_ok hv).2.1
  have hl : (l.take (cutL at_ l)).length = cutL at_ l := by have := cutL_le at_ l; simp; omega
  unfold knownL
  rw [ask_valid hv h, hc, hl, mealK_take _ _ _ _ _ (Nat.le_refl _)]
/-- The meal of the first span that covers a day. -/
def inL : List Spn → Int → Int
  | [], _ => 0
  | s :: r, d => if s.f ≤ d ∧ d < s.t then s.m else inL r d
theorem inL_cases (s : List Spn) (d : Int) : (inL s d = 0 ∧ ∀ x ∈ s, ¬ (x.f ≤ d ∧ d < x.t)) ∨ ∃ x ∈ s, x.f ≤ d ∧ d < x.t ∧ x.m = inL s d := by
  induction s with
  | nil => exact .inl ⟨rfl, by simp⟩
  | cons y t ih =>
    have e : inL (y :: t) d = if y.f ≤ d ∧ d < y.t then y.m else inL t d := rfl
    by_cases h : y.f ≤ d ∧ d < y.t
    · rw [e, if_pos h]; exact .inr ⟨y, by simp, h.1, h.2, rfl⟩
    · rw [e, if_neg h]
      rcases ih with ⟨h1, h2⟩ | ⟨x, h1, h2⟩
      · refine .inl ⟨h1, fun x hx => ?_⟩
        rcases List.mem_cons.1 hx with rfl | hx
        · exact h
        · exact h2 x hx
      · exact .inr ⟨x, by simp [h1], h2⟩
theorem in_meal (l : List Fct) (c : Int) (n : Nat) (d : Int) (h0 : 0 ≤ d) (h1 : d ≤ 999) : inL (spTo (gMeal l c n) 1000) d = mealK l c d n := by
  have hd := fun m => spTo_day (gMeal l c n) 1000 d h0 (by omega) m
  rcases inL_cases (spTo (gMeal l c n) 1000) d with ⟨h2, h3⟩ | ⟨x, h2, h3, h4, h5⟩
  · rw [h2]
    by_cases hz : mealK l c d n = 0
    · exact hz.symm
    · obtain ⟨s, hs, h4, h5, _⟩ := (hd (mealK l c d n)).2 (gMeal_some.2 ⟨rfl, hz⟩)
      exact absurd ⟨h4, h5⟩ (h3 s hs)
  · exact ((gMeal_some.1 ((hd _).1 ⟨x, h2, h3, h4, h5⟩)).1).symm
theorem spans_val {l : List Fct} (h : validE l = 0) {c : Int} (hc : inI c 0 99 = true) (at_ : Int) : spansL l at_ c = (spTo (gMeal l c (cutL at_ l)) 1000, 0) := by
  have h0 : chkE l (inI c 0 99) = 0 := by unfold chkE; rw [if_pos h, hc]; rfl
  have e : spansL l at_ c = (spTo (optG (gS (recTo l c (cutL at_ l)))) 1000, 0) := if_pos h0
  rw [e, optG_gS]
/-- By the compact table a child has the same spans. -/
theorem cmp_spans {l : List Fct} (h : validE l = 0) (at_ c : Int) (hc : inI c 0 99 = true) (h60 : ¬ 60 < (cmpTo l (cutL at_ l) 100).length) : spansL (cmpTo l (cutL at_ l) 100) 0 c = spansL l at_ c := by
  obtain ⟨_, hf, hs⟩ := validE_ok h
  have hv := cmp_valid hf (cutL_le at_ l) (by omega)
  have hci := inI_iff.1 hc
  rw [spans_val hv hc, spans_val h hc]
  refine congrArg (fun s => (s, (0 : Int))) ?_
  refine spTo_congr 1000 (fun i hi => ?_)
  have e : c = ((c.toNat : Nat) : Int) := by omega
  have hm : mealK (cmpTo l (cutL at_ l) 100) c (i : Int) (cutL 0 (cmpTo l (cutL at_ l) 100)) = mealK l c (i : Int) (cutL at_ l) := by
    rw [← refMeal_cut (validE_ok hv).2.2, e, cmp_meal l (cutL at_ l) c.toNat (by omega) (i : Int) 0 (by omega) (by omega) (Int.le_refl _)]
  unfold gMeal
  rw [hm]
theorem cmp_spansL {l : List Fct} (h : validE l = 0) (at_ c : Int) (hc : inI c 0 99 = true) : (cmpL l at_).2 = 0 → spansL (cmpL l at_).1 0 c = spansL l at_ c := by
  unfold cmpL
  rw [if_pos h]
  by_cases h60 : 60 < (cmpTo l (cutL at_ l) 100).length
  · rw [if_pos h60]; intro e; cases e
  · rw [if_neg h60]; intro _; exact cmp_spans h at_ c hc h60
theorem optG_gC (l : List Fct) (c : Int) (b n : Nat) : optG (gC (recTo l c n) (recTo l c b)) = gDiff l c b n := by
  funext d
  unfold optG gC gDiff
  rw [mealR_rec, mealR_rec]
  by_cases h : mealK l c d n = mealK l c d b
  · rw [if_pos h, if_neg (by simp [h])]
  · rw [if_neg h, if_pos (by simp [h])]
theorem changed_val {l : List Fct} (h : validE l = 0) {c : Int} (hc : inI c 0 99 = true) (be at_ : Int) : changedL l be at_ c = (spTo (gDiff l c (cutL be l) (cutL at_ l)) 1000, 0) := by
  have h0 : chkE l (inI c 0 99) = 0 := by unfold chkE; rw [if_pos h, hc]; rfl
  have e : changedL l be at_ c = (spTo (optG (gC (recTo l c (cutL at_ l)) (recTo l c (cutL be l)))) 1000, 0) := if_pos h0
  rw [e, optG_gC]
/-- A span of the first k covers a day, with a meal. -/
def thereTo (s : List Spn) (d m : Int) : Nat → Bool
  | 0 => false
  | k + 1 => thereTo s d m k || (decide ((sAt s k).f ≤ d) && (decide (d < (sAt s k).t) && ((sAt s k).m == m)))
theorem thereTo_iff (s : List Spn) (d m : Int) (k : Nat) (hk : k ≤ s.length) : thereTo s d m k = true ↔ ∃ x ∈ s.take k, x.f ≤ d ∧ d < x.t ∧ x.m = m := by
  induction k with
  | zero => simp [thereTo]
  | succ k ih =>
    have e : thereTo s d m (k + 1) = (thereTo s d m k || (decide ((sAt s k).f ≤ d) && (decide (d < (sAt s k).t) && ((sAt s k).m == m)))) := rfl
    have es : s.take (k + 1) = s.take k ++ [sAt s k] := by
      rw [List.take_succ_eq_append_getElem (by omega)]
      unfold sAt
      rw [List.getElem?_eq_getElem (by omega)]
      rfl
    rw [e, Bool.or_eq_true, ih (by omega), es]
    constructor
    · rintro (⟨x, hx, h⟩ | h)
      · exact ⟨x, by simp [hx], h⟩
      · simp at h
        exact ⟨sAt s k, by simp, h.1, h.2.1, h.2.2⟩
    · rintro ⟨x, hx, h1, h2, h3⟩
      rcases List.mem_append.1 hx with h | h
      · exact .inl ⟨x, h, h1, h2, h3⟩
      · simp at h; subst h
        right
        simp
        exact ⟨h1, h2, h3⟩
theorem there_diff (l : List Fct) (c : Int) (b n : Nat) (d : Int) (h0 : 0 ≤ d) (h1 : d ≤ 999) :
  thereTo (spTo (gDiff l c b n) 1000) d (mealK l c d n) (spTo (gDiff l c b n) 1000).length = (mealK l c d b != mealK l c d n) := by
  rw [Bool.eq_iff_iff, thereTo_iff _ _ _ _ (Nat.le_refl _), List.take_length, spTo_day (gDiff l c b n) 1000 d h0 (by omega) (mealK l c d n)]
  unfold gDiff
  by_cases h : mealK l c d n = mealK l c d b
  · rw [if_pos h]; simp [h]
  · rw [if_neg h]
    have : ¬ mealK l c d b = mealK l c d n := fun e => h e.symm
    simp [this]
/-- All that the law asks of plain values. -/
theorem times_law {l : List Fct} {x : Fct} (hl : validE l = 0) (hm : validE (l ++ [x]) = 0) (at_ c d : Int) (hk : (knownL (l ++ [x]) at_ c d).2 = 0) :
  ∃ m b sp ch, knownL (l ++ [x]) at_ c d = (m, 0) ∧ untilL (l ++ [x]) at_ = ((l ++ [x]).take (cutL at_ (l ++ [x])), 0) ∧ knownL ((l ++ [x]).take (cutL at_ (l ++ [x]))) 1440000 c d = (m, 0) ∧ spansL (l ++ [x]) at_ c = (sp, 0) ∧ inL sp d = m ∧
    ((cmpL (l ++ [x]) at_).2 = 0 → spansL (cmpL (l ++ [x]) at_).1 0 c = (sp, 0)) ∧ knownL (l ++ [x]) (x.a - 1) c d = (b, 0) ∧ changedL (l ++ [x]) (x.a - 1) at_ c = (ch, 0) ∧ thereTo ch d m ch.length = (b != m) := by
  obtain ⟨ha, _⟩ := known_ask hk
  obtain ⟨_, _, _, hc, h0, h1⟩ := askE_ok ha
  have hci : inI c 0 99 = true := inI_iff.2 hc
  generalize hM : l ++ [x] = M at *
  refine ⟨mealK M c d (cutL at_ M), mealK M c d (cutL (x.a - 1) M), spTo (gMeal M c (cutL at_ M)) 1000, spTo (gDiff M c (cutL (x.a - 1) M) (cutL at_ M)) 1000, known_val ha at_, if_pos hm, (until_all hm at_ c d).trans (known_val ha at_), spans_val hm hci at_, in_meal M c _ d h0 h1, ?_, known_val ha _, changed_val hm hci _ _, there_diff M c _ _ d h0 h1⟩
  intro e
  rw [cmp_spansL hm at_ c hci e]
  exact spans_val hm hci at_
end Go.Proofs.Ytkepjoociidkcaa
