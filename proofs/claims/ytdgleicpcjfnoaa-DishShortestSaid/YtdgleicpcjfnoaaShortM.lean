/- The fewest properties of a proof: sets that right steps reach: plain mathematics. -/
import Derived.Test.YtdgleicpcjfnoaaProofN
set_option linter.unusedVariables false
namespace Go.Proofs.Ytdgleicpcjfnoaa

/-- What rules give at once. -/
def giveTo (rls : List RuleL) (M : Nat) : Nat → Nat
  | 0 => 0
  | k + 1 => if (rls[k]?.getD ([], 0)).1.all (fun x => M.testBit x.toNat) then giveTo rls M k ||| 2 ^ (rls[k]?.getD ([], 0)).2.toNat else giveTo rls M k
def giveL (rls : List RuleL) (M : Nat) : Nat := giveTo rls M rls.length
theorem giveTo_bit (rls : List RuleL) (M k p : Nat) (hk : k ≤ rls.length) : (giveTo rls M k).testBit p = true ↔ ∃ i, i < k ∧ (rls[i]?.getD ([], 0)).1.all (fun x => M.testBit x.toNat) = true ∧ (rls[i]?.getD ([], 0)).2.toNat = p := by
  induction k with
  | zero => simp [giveTo]
  | succ k ih =>
    rw [giveTo]
    have ih := ih (by omega)
    split
    · rename_i h
      rw [Nat.testBit_or, Bool.or_eq_true, ih, Nat.testBit_two_pow, decide_eq_true_iff]
      constructor
      · rintro (⟨i, h1, h2⟩ | h2)
        · exact ⟨i, by omega, h2⟩
        · exact ⟨k, by omega, h, h2⟩
      · rintro ⟨i, h1, h2, h3⟩
        by_cases e : i = k
        · subst e; exact .inr h3
        · exact .inl ⟨i, by omega, h2, h3⟩
    · rename_i h
      rw [ih]
      constructor
      · rintro ⟨i, h1, h2⟩; exact ⟨i, by omega, h2⟩
      · rintro ⟨i, h1, h2, h3⟩
        by_cases e : i = k
        · subst e; exact absurd h2 h
        · exact ⟨i, by omega, h2, h3⟩
theorem giveL_bit (rls : List RuleL) (M p : Nat) : (giveL rls M).testBit p = true ↔ ∃ r ∈ rls, r.1.all (fun x => M.testBit x.toNat) = true ∧ r.2.toNat = p := by
  unfold giveL
  rw [giveTo_bit rls M _ p (Nat.le_refl _)]
  constructor
  · rintro ⟨i, h1, h2, h3⟩
    exact ⟨_, getRule_mem rls i h1, h2, h3⟩
  · rintro ⟨r, hr, h2, h3⟩
    obtain ⟨i, hi, rfl⟩ := List.mem_iff_getElem.1 hr
    exact ⟨i, hi, by rw [List.getElem?_eq_getElem hi]; exact h2, by rw [List.getElem?_eq_getElem hi]; exact h3⟩

/-- The sets that right steps reach, where the item has O by itself. -/
inductive Reach (rls : List RuleL) (O : Nat) : Nat → Prop
  | zero : Reach rls O 0
  | step {m p : Nat} : Reach rls O m → (O ||| giveL rls m).testBit p = true → Reach rls O (m ||| 2 ^ p)
/-- The marks behind the properties that one set leads to. -/
def succTo (I i : Nat) : List Int → Nat
  | [] => I
  | p :: t => succTo (I ||| 2 ^ (i ||| 2 ^ p.toNat)) i t
theorem succTo_snoc (I i : Nat) (l : List Int) (p : Int) : succTo I i (l ++ [p]) = succTo I i l ||| 2 ^ (i ||| 2 ^ p.toNat) := by
  induction l generalizing I with
  | nil => rfl
  | cons x t ih => exact ih _
theorem succTo_bit (I i : Nat) (l : List Int) (j : Nat) : (succTo I i l).testBit j = true ↔ I.testBit j = true ∨ ∃ p ∈ l, i ||| 2 ^ p.toNat = j := by
  induction l generalizing I with
  | nil => simp [succTo]
  | cons x t ih =>
    rw [succTo, ih, Nat.testBit_or, Bool.or_eq_true, Nat.testBit_two_pow, decide_eq_true_iff]
    simp only [List.mem_cons]
    constructor
    · rintro ((h | h) | ⟨p, h1, h2⟩)
      · exact .inl h
      · exact .inr ⟨x, .inl rfl, h⟩
      · exact .inr ⟨p, .inr h1, h2⟩
    · rintro (h | ⟨p, rfl | h1, h2⟩)
      · exact .inl (.inl h)
      · exact .inl (.inr h2)
      · exact .inr ⟨p, h1, h2⟩
def nextM (rls : List RuleL) (O I i : Nat) : Nat := if I.testBit i then succTo I i (bitsTo (O ||| giveL rls i) 64) else I
/-- The marks behind the first k sets. -/
def provTo (rls : List RuleL) (O : Nat) : Nat → Nat
  | 0 => 1
  | k + 1 => nextM rls O (provTo rls O k) k
theorem next_mono (rls : List RuleL) (O I i : Nat) : Sub I (nextM rls O I i) := by
  intro j hj
  unfold nextM
  split
  · rw [succTo_bit]; exact .inl hj
  · exact hj
theorem or_ge (i p : Nat) : i ≤ i ||| 2 ^ p := Nat.left_le_or
theorem next_old (rls : List RuleL) (O I i j : Nat) (h : j ≤ i) : (nextM rls O I i).testBit j = I.testBit j := by
  unfold nextM
  split
  · rename_i hi
    rw [Bool.eq_iff_iff, succTo_bit]
    refine ⟨fun hh => ?_, .inl⟩
    rcases hh with hh | ⟨p, _, e⟩
    · exact hh
    · have := or_ge i p.toNat
      obtain rfl : j = i := by omega
      exact hi
  · rfl
theorem prov_mono (rls : List RuleL) (O k d : Nat) : Sub (provTo rls O k) (provTo rls O (k + d)) := by
  induction d with
  | zero => exact Sub.refl _
  | succ d ih => exact ih.trans (next_mono rls O _ _)
theorem prov_old (rls : List RuleL) (O j d : Nat) : (provTo rls O (j + d)).testBit j = (provTo rls O j).testBit j := by
  induction d with
  | zero => rfl
  | succ d ih =>
    rw [show j + (d + 1) = (j + d) + 1 by omega, provTo, next_old _ _ _ _ _ (by omega)]
    exact ih
theorem prov_sound (rls : List RuleL) (O k : Nat) : ∀ j, (provTo rls O k).testBit j = true → Reach rls O j := by
  induction k with
  | zero =>
    intro j hj
    have : j = 0 := by
      have h1 : (provTo rls O 0) = 2 ^ 0 := rfl
      rw [h1, Nat.testBit_two_pow, decide_eq_true_iff] at hj
      exact hj.symm
    subst this
    exact .zero
  | succ k ih =>
    intro j hj
    rw [provTo] at hj
    unfold nextM at hj
    split at hj
    · rename_i hk
      rw [succTo_bit] at hj
      rcases hj with hj | ⟨p, hp, rfl⟩
      · exact ih j hj
      · obtain ⟨i, rfl, _, h2⟩ := (mem_bitsTo _ _ p).1 hp
        rw [Int.toNat_natCast]
        exact .step (ih k hk) h2
    · exact ih j hj
theorem or_lt_bit {m p N : Nat} (h : m ||| 2 ^ p < 2 ^ N) : m < 2 ^ N ∧ p < N := by
  refine ⟨Nat.lt_of_le_of_lt (or_ge m p) h, ?_⟩
  have h1 : (m ||| 2 ^ p).testBit p = true := by rw [Nat.testBit_or, Nat.testBit_two_pow_self]; simp
  exact bit_lt h h1
theorem prov_complete (rls : List RuleL) (O P : Nat) (hP : P ≤ 64) : ∀ m, Reach rls O m → m < 2 ^ P → (provTo rls O (2 ^ P)).testBit m = true := by
  intro m h
  induction h with
  | zero =>
    intro _
    have := prov_mono rls O 0 (2 ^ P) 0 (by rw [provTo]; decide)
    rwa [Nat.zero_add] at this
  | @step m p hm hb ih =>
    intro hlt
    obtain ⟨h1, h2⟩ := or_lt_bit hlt
    have h3 := ih h1
    obtain ⟨d, hd⟩ : ∃ d, 2 ^ P = (m + 1) + d := ⟨2 ^ P - (m + 1), by omega⟩
    have h4 : (provTo rls O m).testBit m = true := by
      have := prov_old rls O m (1 + d)
      rw [show m + (1 + d) = 2 ^ P by omega] at this
      rw [← this]; exact h3
    have h5 : (provTo rls O (m + 1)).testBit (m ||| 2 ^ p) = true := by
      rw [provTo]
      unfold nextM
      rw [if_pos h4, succTo_bit]
      exact .inr ⟨(p : Int), (mem_bitsTo _ _ _).2 ⟨p, rfl, by omega, hb⟩, by rw [Int.toNat_natCast]⟩
    have := prov_mono rls O (m + 1) d _ h5
    rwa [← hd] at this
theorem prov_iff (rls : List RuleL) (O P : Nat) (hP : P ≤ 64) (m : Nat) (hm : m < 2 ^ P) : (provTo rls O (2 ^ P)).testBit m = true ↔ Reach rls O m :=
  ⟨prov_sound rls O _ m, fun h => prov_complete rls O P hP m h hm⟩
theorem succTo_lt {I i N P : Nat} (hI : I < 2 ^ N) (hN : 2 ^ P ≤ N) (hi : i < 2 ^ P) (l : List Int) (hl : ∀ x ∈ l, x.toNat < P) : succTo I i l < 2 ^ N := by
  induction l generalizing I with
  | nil => exact hI
  | cons x t ih =>
    refine ih (Nat.or_lt_two_pow hI ?_) (fun y hy => hl y (by simp [hy]))
    refine Nat.pow_lt_pow_right (by omega) (Nat.lt_of_lt_of_le (Nat.or_lt_two_pow hi (Nat.pow_lt_pow_right (by omega) (hl x (by simp)))) hN)

/-- The rules that lie in a set. -/
def withinL (rls : List RuleL) (n : Nat) : List RuleL := rls.filter (fun r => n.testBit r.2.toNat && allM n r.1)
theorem mem_withinL {rls : List RuleL} {n : Nat} {r : RuleL} : r ∈ withinL rls n ↔ r ∈ rls ∧ n.testBit r.2.toNat = true ∧ ∀ x ∈ r.1, n.testBit x.toNat = true := by
  unfold withinL
  rw [List.mem_filter, Bool.and_eq_true, allM_iff]
theorem within_ok {rls : List RuleL} (h : RulesOk rls) (n : Nat) : RulesOk (withinL rls n) := fun r hr => h r (mem_withinL.1 hr).1
/-- All of a set follows from what lies in it by itself. -/
def selfD (rls : List RuleL) (O n : Nat) : Bool := allM (closL (withinL rls n) (O &&& n)) (bitsTo n 64)
theorem selfD_iff (rls : List RuleL) (O n : Nat) (hn : n < 2 ^ 64) : selfD rls O n = true ↔ Sub n (closL (withinL rls n) (O &&& n)) := by
  unfold selfD
  rw [allM_iff]
  constructor
  · intro h i hi
    have := h (i : Int) ((mem_bitsTo _ _ _).2 ⟨i, rfl, bit_lt hn hi, hi⟩)
    simpa using this
  · intro h x hx
    obtain ⟨i, rfl, _, h2⟩ := (mem_bitsTo _ _ x).1 hx
    simpa using h i h2
theorem and_lt10 {O n : Nat} (h : n < 2 ^ 10) : O &&& n < 2 ^ 10 := Nat.lt_of_le_of_lt Nat.and_le_right h
theorem reach_sub {rls : List RuleL} (ho : RulesOk rls) {O n : Nat} (hn : n < 2 ^ 10) : ∀ m, Reach rls O m → Sub m n → Sub m (closL (withinL rls n) (O &&& n)) := by
  obtain ⟨c1, c2, c3, c4⟩ := closL_spec (withinL rls n) (within_ok ho n) (O &&& n) (and_lt10 hn)
  intro m h
  induction h with
  | zero => intro _ i hi; simp at hi
  | @step m p hm hb ih =>
    intro hs
    have hmn : Sub m n := fun i hi => hs i (by rw [Nat.testBit_or, hi]; rfl)
    have hpn : n.testBit p = true := hs p (by rw [Nat.testBit_or, Nat.testBit_two_pow_self]; simp)
    refine (ih hmn).add ?_
    rw [Nat.testBit_or, Bool.or_eq_true] at hb
    rcases hb with hb | hb
    · exact c2 p (by rw [Nat.testBit_and, hb, hpn]; rfl)
    · obtain ⟨r, hr, h1, rfl⟩ := (giveL_bit rls m p).1 hb
      have h1 : ∀ x ∈ r.1, m.testBit x.toNat = true := by simpa using h1
      exact c1 r (mem_withinL.2 ⟨hr, hpn, fun x hx => hmn _ (h1 x hx)⟩) (fun x hx => ih hmn _ (h1 x hx))
theorem cntBits_lt2 (M n p : Nat) (hp : p < n) (hb : M.testBit p = false) : cntBits M n < n := by
  have h1 := cntBits_with M n p hb
  have h2 := cntBits_le (M ||| 2 ^ p) n
  rw [if_pos hp] at h1
  omega
theorem sub_reach {rls : List RuleL} (ho : RulesOk rls) {O n : Nat} (hn : n < 2 ^ 10) (h : Sub n (closL (withinL rls n) (O &&& n))) : ∀ (f m : Nat), 10 ≤ cntBits m 10 + f → Reach rls O m → Sub m n → Reach rls O n := by
  obtain ⟨c1, c2, c3, c4⟩ := closL_spec (withinL rls n) (within_ok ho n) (O &&& n) (and_lt10 hn)
  intro f
  induction f with
  | zero =>
    intro m hc hm hs
    by_cases he : m = n
    · subst he; exact hm
    · exfalso
      apply he
      refine Sub.antisymm hs (fun i hi => ?_)
      have hi10 := bit_lt hn hi
      cases hb : m.testBit i with
      | true => rfl
      | false => have := cntBits_lt2 m 10 i hi10 hb; omega
  | succ f ih =>
    intro m hc hm hs
    by_cases h1 : Sub (O &&& n) m
    · by_cases h2 : Clo (withinL rls n) m
      · have := Sub.antisymm hs (h.trans (c4 m h2 h1))
        subst this
        exact hm
      · unfold Clo at h2
        simp only [Classical.not_forall] at h2
        obtain ⟨r, hr, h3, h4⟩ := h2
        have h4 : m.testBit r.2.toNat = false := by simpa using h4
        obtain ⟨hr1, hr2, hr3⟩ := mem_withinL.1 hr
        have hb : (O ||| giveL rls m).testBit r.2.toNat = true := by
          rw [Nat.testBit_or, Bool.or_eq_true]
          exact .inr ((giveL_bit rls m _).2 ⟨r, hr1, by simpa using h3, rfl⟩)
        refine ih _ ?_ (.step hm hb) (hs.add hr2)
        have := cntBits_with m 10 r.2.toNat h4
        rw [if_pos (bit_lt hn hr2)] at this
        omega
    · unfold Sub at h1
      simp only [Classical.not_forall] at h1
      obtain ⟨p, hp, hq⟩ := h1
      have hq : m.testBit p = false := by simpa using hq
      rw [Nat.testBit_and, Bool.and_eq_true] at hp
      refine ih _ ?_ (.step (p := p) hm (by rw [Nat.testBit_or, hp.1]; rfl)) (hs.add hp.2)
      have := cntBits_with m 10 p hq
      rw [if_pos (bit_lt hn hp.2)] at this
      omega
theorem reach_iff {rls : List RuleL} (ho : RulesOk rls) {O n : Nat} (hn : n < 2 ^ 10) : Reach rls O n ↔ selfD rls O n = true := by
  rw [selfD_iff _ _ _ (by omega)]
  exact ⟨fun h => reach_sub ho hn n h (Sub.refl _), fun h => sub_reach ho hn h 10 0 (by omega) .zero (fun i hi => by simp at hi)⟩

/-- The fewest properties of the sets below k that are marked and hold the property. -/
def bestTo (Q : Nat → Bool) (p : Nat) : Nat → Nat
  | 0 => 0
  | k + 1 => if (Q k && k.testBit p) && (decide (bestTo Q p k = 0) || decide (cntBits k 10 < bestTo Q p k)) then cntBits k 10 else bestTo Q p k
theorem bestTo_congr {Q R : Nat → Bool} (p k : Nat) (h : ∀ i, i < k → Q i = R i) : bestTo Q p k = bestTo R p k := by
  induction k with
  | zero => rfl
  | succ k ih => rw [bestTo, bestTo, ih (fun i hi => h i (by omega)), h k (by omega)]
theorem cnt_pos {k p : Nat} (hp : p < 10) (h : k.testBit p = true) : 0 < cntBits k 10 := by
  rcases Nat.eq_zero_or_pos (cntBits k 10) with h0 | h0
  · exfalso
    have : ∀ n, cntBits k n = 0 → ∀ i, i < n → k.testBit i = false := by
      intro n
      induction n with
      | zero => intro _ i hi; omega
      | succ n ih =>
        intro hh i hi
        rw [cntBits] at hh
        by_cases e : i = n
        · subst e
          cases hb : k.testBit i with
          | false => rfl
          | true => rw [hb] at hh; simp at hh
        · exact ih (by omega) i (by omega)
    rw [this 10 h0 p hp] at h
    cases h
  · exact h0
theorem bestTo_le {Q : Nat → Bool} {p k : Nat} (hp : p < 10) {m : Nat} (hm : m < k) (hQ : Q m = true) (hb : m.testBit p = true) : 0 < bestTo Q p k ∧ bestTo Q p k ≤ cntBits m 10 := by
  induction k with
  | zero => omega
  | succ k ih =>
    rw [bestTo]
    by_cases e : m = k
    · subst e
      rw [hQ, hb, Bool.true_and, Bool.true_and]
      have := cnt_pos hp hb
      split
      · exact ⟨this, Nat.le_refl _⟩
      · rename_i hn
        simp at hn
        omega
    · obtain ⟨h1, h2⟩ := ih (by omega)
      split
      · rename_i hc
        simp at hc
        refine ⟨cnt_pos hp hc.1.2, ?_⟩
        rcases hc.2 with h3 | h3
        · omega
        · omega
      · exact ⟨h1, h2⟩
theorem bestTo_has {Q : Nat → Bool} {p k : Nat} (h : 0 < bestTo Q p k) : ∃ m, m < k ∧ Q m = true ∧ m.testBit p = true ∧ bestTo Q p k = cntBits m 10 := by
  induction k with
  | zero => simp [bestTo] at h
  | succ k ih =>
    rw [bestTo] at h ⊢
    split
    · rename_i hc
      simp at hc
      exact ⟨k, by omega, hc.1.1, hc.1.2, rfl⟩
    · rename_i hc
      rw [if_neg hc] at h
      obtain ⟨m, h1, h2, h3, h4⟩ := ih h
      exact ⟨m, by omega, h2, h3, h4⟩
theorem bitsTo_cnt (M n : Nat) : (bitsTo M n).length = cntBits M n := by
  induction n with
  | zero => rfl
  | succ n ih =>
    rw [bitsTo, List.length_append, ih, cntBits]
    split <;> rfl
theorem bitsTo_cnt64 {M : Nat} (h : M < 2 ^ 10) : (bitsTo M 64).length = cntBits M 10 := by
  rw [← bitsTo_P h (by omega), bitsTo_cnt]
/-- What right steps prove is reached. -/
theorem steps_reach {its : List ItemL} {rls : List RuleL} {C : Nat} {O : Nat} (hO : ∀ i, C.testBit i = true → ∀ x ∈ hsL its i, O.testBit x.toNat = true) (l : List StepL) (M : Nat) (hM : Reach rls O M) (h : stepsB its rls C M l = true) : Reach rls O (propsFrom M l) := by
  induction l generalizing M with
  | nil => exact hM
  | cons s t ih =>
    have h2 : (stepB its rls C M s && stepsB its rls C (M ||| 2 ^ s.1.toNat) t) = true := h
    rw [Bool.and_eq_true] at h2
    obtain ⟨hs, ht⟩ := h2
    rw [propsFrom_cons]
    refine ih _ (.step hM ?_) ht
    rw [Nat.testBit_or, Bool.or_eq_true]
    unfold stepB at hs
    split at hs
    · simp at hs
      exact .inl (hO _ hs.2.2.1 _ hs.2.2.2)
    · simp at hs
      obtain ⟨_, h0, h1, h3, h4⟩ := hs
      have hm := rlAt_mem (rls := rls) (k := s.2.2.toNat) (by omega)
      exact .inr ((giveL_bit rls M _).2 ⟨_, hm, by simpa using h4, by rw [h3]⟩)
theorem reach_clo {rls : List RuleL} {O L : Nat} (hC : Clo rls L) (hO : Sub O L) : ∀ m, Reach rls O m → Sub m L := by
  intro m h
  induction h with
  | zero => intro i hi; simp at hi
  | @step m p hm hb ih =>
    refine ih.add ?_
    rw [Nat.testBit_or, Bool.or_eq_true] at hb
    rcases hb with hb | hb
    · exact hO p hb
    · obtain ⟨r, hr, h1, rfl⟩ := (giveL_bit rls m p).1 hb
      exact hC r hr (fun x hx => ih _ (by simp at h1; exact h1 x hx))
end Go.Proofs.Ytdgleicpcjfnoaa
