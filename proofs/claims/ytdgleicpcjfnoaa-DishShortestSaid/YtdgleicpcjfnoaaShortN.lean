/- The fewest properties against the proof that is explained: plain mathematics. -/
import Derived.Test.YtdgleicpcjfnoaaShortP
import Derived.Test.YtdgleicpcjfnoaaDishExplainsW
set_option linter.unusedVariables false
namespace Go.Proofs.Ytdgleicpcjfnoaa
open Go.RowKit

theorem short_eq {P : Int} {its : List ItemL} {rls : List RuleL} {item prop : Int} {m m2 : Nat} {b b2 : Bool} {e e2 : Int} (h : shortA P its rls item prop m b e) (h2 : shortA P its rls item prop m2 b2 e2) : m2 = m ∧ b2 = b ∧ e2 = e := by
  unfold shortA at h h2
  split at h
  · rename_i hz
    rw [if_pos hz] at h2
    exact ⟨h2.1.trans h.1.symm, h2.2.1.trans h.2.1.symm, h2.2.2.trans h.2.2.symm⟩
  · rename_i hz
    rw [if_neg hz] at h2
    obtain ⟨a1, a2, a3⟩ := h
    obtain ⟨b1, b2, b3⟩ := h2
    have hm := b2.trans a2.symm
    refine ⟨hm, ?_, b1.trans a1.symm⟩
    rw [b3, a3, hm]
theorem own_all {its : List ItemL} {n : Nat} (hb : ∀ i, (contL its n).testBit i = true → i < its.length) (hl : its.length ≤ 20) : ∀ i, (contL its n).testBit i = true → ∀ x ∈ hsL its i, (propsL (ownL its n)).testBit x.toNat = true :=
  fun i hi x hx => (own_bit its n x.toNat (fun j hj => by have := hb j hj; omega)).2 ⟨i, hi, x, hx, rfl⟩
theorem props_mem {l : List StepL} {s : StepL} (h : s ∈ l) : (propsL l).testBit s.1.toNat = true := by
  rw [propsL_bit, decide_eq_true_iff]; exact ⟨s, h, rfl⟩
theorem props_take (l : List StepL) (k : Nat) : Sub (propsL (l.take k)) (propsL l) := by
  intro i hi
  rw [propsL_bit, decide_eq_true_iff] at hi ⊢
  obtain ⟨s, h1, h2⟩ := hi
  exact ⟨s, List.mem_of_mem_take h1, h2⟩
theorem short_expl {P : Int} {its : List ItemL} {rls : List RuleL} {item prop : Int} {m : Nat} {ok b : Bool} {e e2 : Int} {l : List StepL} (h : shortA P its rls item prop m ok e) (h2 : explA P its rls item prop l b e2) :
    ok = b ∧ e = e2 ∧ (ok = true → m ≤ cntBits (propsL l) 10) ∧ (ok = true → 0 < m) ∧ (∀ s ∈ l, 0 ≤ s.1 ∧ s.1 < 10) ∧ (ok = true → m ≤ cntBits (labM its rls item.toNat) 10) := by
  unfold shortA at h
  split at h
  · rename_i hz
    unfold explA at h2
    rw [if_pos hz] at h2
    obtain ⟨rfl, rfl, rfl⟩ := h
    obtain ⟨rfl, rfl, rfl⟩ := h2
    exact ⟨rfl, rfl, (fun hh => by cases hh), (fun hh => by cases hh), (fun s hs => by cases hs), (fun hh => by cases hh)⟩
  · rename_i hz
    unfold explA at h2
    rw [if_neg hz] at h2
    have hz : propE P its rls item prop = 0 := by simpa using hz
    obtain ⟨rfl, hm, hok⟩ := h
    obtain ⟨rfl, hb, hl⟩ := h2
    obtain ⟨hv, _, hp0, hp1⟩ := propE_ok hz
    obtain ⟨p, n, rfl, rfl, hp, hn, hl20, v4, hR, hRo, hbd, ho, ho10, he⟩ := label_facts (prop_check hz)
    rw [Int.toNat_natCast] at hm hb hl ⊢
    rw [Int.toNat_natCast] at hm
    obtain ⟨q, rfl⟩ := Int.eq_ofNat_of_zero_le hp0
    rw [Int.toNat_natCast] at hm hb
    have hq : q < 10 := by omega
    have hex := expl_right hRo n hbd (by omega) ho10
    have hpp := expl_props its rls n
    have hcl := closL_spec rls hRo _ ho10
    have hlabP : labM its rls n < 2 ^ p := closL_ltP hR hp _ ho
    have hlab10 : labM its rls n < 2 ^ 10 := hcl.2.2.1
    have hOw := own_all hbd hl20
    have hlR : Reach rls (propsL (ownL its n)) (labM its rls n) := by
      rw [← hpp]; exact steps_reach hOw _ 0 .zero hex
    have hlS := (reach_iff hRo hlab10).1 hlR
    have hexok : ∀ s ∈ explL its rls n, 0 ≤ s.1 ∧ s.1 < 10 := fun s hs => by have := stepsB_ok hv _ _ hex s hs; omega
    have hokb : ok = b := by
      rw [hok, hb, Bool.eq_iff_iff, decide_eq_true_iff, hm]
      constructor
      · intro h0
        obtain ⟨x, hx, hx2, hx3, _⟩ := bestTo_has h0
        have hx10 : x < 2 ^ 10 := Nat.lt_of_lt_of_le hx (Nat.pow_le_pow_right (by omega) hp)
        exact reach_clo hcl.1 hcl.2.1 x ((reach_iff hRo hx10).2 hx2) q hx3
      · intro h0
        exact (bestTo_le hq hlabP hlS h0).1
    have hpos : ok = true → 0 < m := fun h => by rw [hok, decide_eq_true_iff] at h; exact h
    have hlabc : ok = true → m ≤ cntBits (labM its rls n) 10 := fun h => by
      rw [hokb, hb] at h
      rw [hm]
      exact (bestTo_le hq hlabP hlS h).2
    cases b with
    | false =>
      have hl : l = [] := by simpa using hl
      subst hl
      refine ⟨hokb, rfl, (fun h => ?_), hpos, (fun s hs => by cases hs), hlabc⟩
      rw [hokb] at h; cases h
    | true =>
      rw [if_pos rfl] at hl
      obtain ⟨k, hk, hkp, hlk⟩ := hl
      refine ⟨hokb, rfl, (fun _ => ?_), hpos, (fun s hs => ?_), hlabc⟩
      · have hst := stepsB_take hex (k + 1)
        have hsR := steps_reach (O := propsL (ownL its n)) hOw _ 0 .zero hst
        have hsub : Sub (propsL ((explL its rls n).take (k + 1))) (labM its rls n) := by rw [← hpp]; exact props_take _ _
        have hltP : propsL ((explL its rls n).take (k + 1)) < 2 ^ p := lt_of_sub (fun i hi => bit_lt hlabP (hsub i hi))
        have hlt10 : propsL ((explL its rls n).take (k + 1)) < 2 ^ 10 := Nat.lt_of_lt_of_le hltP (Nat.pow_le_pow_right (by omega) hp)
        have hmem := props_mem (mem_take (explL its rls n) (0, 0, 0) k hk)
        rw [hkp, Int.toNat_natCast] at hmem
        rw [hlk, hm]
        exact (bestTo_le hq hltP ((reach_iff hRo hlt10).1 hsR) hmem).2
      · rw [hlk] at hs
        exact hexok s (List.mem_of_mem_take hs)
/-- The different properties of the first k steps. -/
def seenTo (l : List StepL) : Nat → List Int
  | 0 => []
  | k + 1 => if memB (l[k]?.getD (0, 0, 0)).1 (seenTo l k) then seenTo l k else seenTo l k ++ [(l[k]?.getD (0, 0, 0)).1]
theorem seen_mem (l : List StepL) (k : Nat) (hk : k ≤ l.length) : ∀ p : Int, p ∈ seenTo l k ↔ ∃ s ∈ l.take k, s.1 = p := by
  induction k with
  | zero => simp [seenTo]
  | succ k ih =>
    intro p
    have ih' := ih (by omega)
    have ih := ih' p
    have hl : l.take (k + 1) = l.take k ++ [l[k]?.getD (0, 0, 0)] := by rw [List.take_succ_eq_append_getElem (by omega), List.getElem?_eq_getElem (by omega)]; rfl
    rw [hl, seenTo]
    unfold memB
    split
    · rename_i h
      rw [decide_eq_true_iff] at h
      rw [ih]
      constructor
      · rintro ⟨s, h1, h2⟩; exact ⟨s, List.mem_append.2 (.inl h1), h2⟩
      · rintro ⟨s, h1, h2⟩
        rcases List.mem_append.1 h1 with h1 | h1
        · exact ⟨s, h1, h2⟩
        · simp at h1; subst h1; subst h2
          exact (ih' _).1 h
    · rw [List.mem_append, ih]
      constructor
      · rintro (⟨s, h1, h2⟩ | h1)
        · exact ⟨s, List.mem_append.2 (.inl h1), h2⟩
        · simp at h1
          exact ⟨_, List.mem_append.2 (.inr (by simp)), h1.symm⟩
      · rintro ⟨s, h1, h2⟩
        rcases List.mem_append.1 h1 with h1 | h1
        · exact .inl ⟨s, h1, h2⟩
        · simp at h1; subst h1; exact .inr (by simp [h2])
theorem seen_cnt (l : List StepL) (hl : ∀ s ∈ l, 0 ≤ s.1 ∧ s.1 < 10) (k : Nat) (hk : k ≤ l.length) : (seenTo l k).length = cntBits (propsL (l.take k)) 10 := by
  induction k with
  | zero =>
    show 0 = cntBits 0 10
    decide
  | succ k ih =>
    have ih := ih (by omega)
    have hm := seen_mem l k (by omega)
    have hx := hl (l[k]?.getD (0, 0, 0)) (by rw [List.getElem?_eq_getElem (by omega)]; exact List.getElem_mem _)
    have hpt := propsL_take l k (by omega)
    rw [seenTo, hpt]
    generalize l[k]?.getD (0, 0, 0) = s at *
    have hbit : memB s.1 (seenTo l k) = (propsL (l.take k)).testBit s.1.toNat := by
      unfold memB
      rw [propsL_bit, decide_eq_decide, hm]
      constructor
      · rintro ⟨t, h1, h2⟩; exact ⟨t, h1, by rw [h2]⟩
      · rintro ⟨t, h1, h2⟩
        have := hl t (List.mem_of_mem_take h1)
        exact ⟨t, h1, by omega⟩
    rw [hbit]
    cases hb : (propsL (l.take k)).testBit s.1.toNat with
    | true =>
      rw [if_pos rfl, ih]
      congr 1
      apply Nat.eq_of_testBit_eq
      intro i
      rw [Nat.testBit_or, Nat.testBit_two_pow]
      by_cases e : s.1.toNat = i
      · subst e; rw [hb]; rfl
      · rw [decide_eq_false e, Bool.or_false]
    | false =>
      rw [if_neg (by simp), List.length_append, ih]
      have := cntBits_with (propsL (l.take k)) 10 s.1.toNat hb
      rw [if_pos (by omega)] at this
      rw [this]; rfl
theorem seen_bd (l : List StepL) (k : Nat) (hk : k ≤ l.length) (hl : ∀ s ∈ l, 0 ≤ s.1 ∧ s.1 < 10) : ∀ x ∈ seenTo l k, 0 ≤ x ∧ x < 10 := by
  intro x hx
  obtain ⟨s, h1, rfl⟩ := (seen_mem l k hk x).1 hx
  exact hl s (List.mem_of_mem_take h1)
end Go.Proofs.Ytdgleicpcjfnoaa
