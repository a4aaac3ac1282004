/- Steps of proofs: which are right, that what they prove is in the label, and that the list of own steps and rule steps is right: plain mathematics. -/
import Derived.Test.YtdgleicpcjfnoaaContM
import Derived.Test.YtdgleicpcjfnoaaClosM
set_option linter.unusedVariables false
namespace Go.Proofs.Ytdgleicpcjfnoaa

def rlAt (rls : List RuleL) (k : Nat) : RuleL := rls[k]?.getD ([], 0)
/-- A step (property, item, rule) is right where C is in the item and M is known. -/
def stepB (its : List ItemL) (rls : List RuleL) (C M : Nat) (s : StepL) : Bool :=
  if s.2.2 = -1 then decide (0 ≤ s.2.1) && (decide (s.2.1 < (its.length : Int)) && (C.testBit s.2.1.toNat && decide (s.1 ∈ hsL its s.2.1.toNat)))
  else decide (s.2.1 = -1) && (decide (0 ≤ s.2.2) && (decide (s.2.2 < (rls.length : Int)) && (decide ((rlAt rls s.2.2.toNat).2 = s.1) && (rlAt rls s.2.2.toNat).1.all (fun x => M.testBit x.toNat))))
def stepsB (its : List ItemL) (rls : List RuleL) (C : Nat) : Nat → List StepL → Bool
  | _, [] => true
  | M, s :: t => stepB its rls C M s && stepsB its rls C (M ||| 2 ^ s.1.toNat) t
theorem propsFrom_cons (M : Nat) (s : StepL) (t : List StepL) : propsFrom M (s :: t) = propsFrom (M ||| 2 ^ s.1.toNat) t := rfl
theorem propsFrom_app (M : Nat) (l r : List StepL) : propsFrom M (l ++ r) = propsFrom (propsFrom M l) r := by simp [propsFrom, List.foldl_append]
theorem propsFrom_or (M : Nat) (l : List StepL) : propsFrom M l = M ||| propsL l := by
  unfold propsL
  induction l generalizing M with
  | nil => simp [propsFrom]
  | cons s t ih =>
    rw [propsFrom_cons, propsFrom_cons, ih (M ||| 2 ^ s.1.toNat), ih (0 ||| 2 ^ s.1.toNat), Nat.zero_or, Nat.or_assoc]
theorem propsL_app (l r : List StepL) : propsL (l ++ r) = propsL l ||| propsL r := by
  unfold propsL
  rw [propsFrom_app, propsFrom_or]
  rfl
theorem stepsB_app (its : List ItemL) (rls : List RuleL) (C M : Nat) (l r : List StepL) : stepsB its rls C M (l ++ r) = (stepsB its rls C M l && stepsB its rls C (propsFrom M l) r) := by
  induction l generalizing M with
  | nil => rfl
  | cons s t ih =>
    show (stepB its rls C M s && stepsB its rls C (M ||| 2 ^ s.1.toNat) (t ++ r)) = _
    rw [ih, ← Bool.and_assoc]
    rfl
theorem stepsB_take {its : List ItemL} {rls : List RuleL} {C M : Nat} {l : List StepL} (h : stepsB its rls C M l = true) (k : Nat) : stepsB its rls C M (l.take k) = true := by
  have := stepsB_app its rls C M (l.take k) (l.drop k)
  rw [List.take_append_drop, h] at this
  have h2 := this.symm
  rw [Bool.and_eq_true] at h2
  exact h2.1
theorem rlAt_mem {rls : List RuleL} {k : Nat} (h : k < rls.length) : rlAt rls k ∈ rls := by
  unfold rlAt; rw [List.getElem?_eq_getElem h]; simp
/-- What right steps prove lies in each set that holds what the item has by itself, and is closed under the rules. -/
theorem steps_sub {its : List ItemL} {rls : List RuleL} {C L : Nat} (hC : Clo rls L) (hO : ∀ i, C.testBit i = true → ∀ x ∈ hsL its i, L.testBit x.toNat = true) (l : List StepL) (M : Nat) (hM : Sub M L) (h : stepsB its rls C M l = true) : Sub (propsFrom M l) L := by
  induction l generalizing M with
  | nil => exact hM
  | cons s t ih =>
    have h2 : (stepB its rls C M s && stepsB its rls C (M ||| 2 ^ s.1.toNat) t) = true := h
    rw [Bool.and_eq_true] at h2
    obtain ⟨hs, ht⟩ := h2
    rw [propsFrom_cons]
    refine ih _ (hM.add ?_) ht
    unfold stepB at hs
    split at hs
    · simp at hs
      exact hO _ hs.2.2.1 _ hs.2.2.2
    · simp at hs
      obtain ⟨_, h0, h1, h3, h4⟩ := hs
      have hm := rlAt_mem (rls := rls) (k := s.2.2.toNat) (by omega)
      have := hC _ hm (fun x hx => hM _ (h4 x hx))
      rw [h3] at this
      exact this
theorem label_own {its : List ItemL} {rls : List RuleL} (ho : RulesOk rls) (n : Nat) (hb : ∀ i, (contL its n).testBit i = true → i < 64) (hM : propsL (ownL its n) < 2 ^ 10) : ∀ i, (contL its n).testBit i = true → ∀ x ∈ hsL its i, (labM its rls n).testBit x.toNat = true := by
  intro i hi x hx
  have h1 := (own_bit its n x.toNat hb).2 ⟨i, hi, x, hx, rfl⟩
  exact (closL_spec rls ho _ hM).2.1 _ h1
/-- A property of an accepted proof is in the label. -/
theorem proof_label {its : List ItemL} {rls : List RuleL} (ho : RulesOk rls) (n : Nat) (hb : ∀ i, (contL its n).testBit i = true → i < 64) (hM : propsL (ownL its n) < 2 ^ 10) {l : List StepL} (h : stepsB its rls (contL its n) 0 l = true) {s : StepL} (hs : s ∈ l) : (labM its rls n).testBit s.1.toNat = true := by
  have h1 := steps_sub (closL_spec rls ho _ hM).1 (label_own ho n hb hM) l 0 (fun i hi => by simp at hi) h
  refine h1 _ ?_
  have hbit : ∀ (l : List StepL) (M : Nat), s ∈ l → (propsFrom M l).testBit s.1.toNat = true := by
    intro l
    induction l with
    | nil => intro M hm; simp at hm
    | cons t r ih =>
      intro M hm
      rcases List.mem_cons.1 hm with rfl | hm
      · rw [propsFrom_cons, propsFrom_or, Nat.testBit_or, Nat.testBit_or, Nat.testBit_two_pow_self]; simp
      · exact ih _ hm
  exact hbit l 0 hs
/-- A step by which an item has something by itself. -/
def ownOk (its : List ItemL) (C : Nat) (s : StepL) : Prop := s.2.2 = -1 ∧ 0 ≤ s.2.1 ∧ s.2.1 < (its.length : Int) ∧ C.testBit s.2.1.toNat = true ∧ s.1 ∈ hsL its s.2.1.toNat
theorem ownHas_own {its : List ItemL} {C : Nat} (frm : Int) (hf : 0 ≤ frm ∧ frm < (its.length : Int) ∧ C.testBit frm.toNat = true) (hs : List Int) (hh : ∀ p ∈ hs, p ∈ hsL its frm.toNat) (acc : List StepL) (h : ∀ s ∈ acc, ownOk its C s) : ∀ s ∈ ownHas frm acc hs, ownOk its C s := by
  induction hs generalizing acc with
  | nil => exact h
  | cons p t ih =>
    show ∀ s ∈ ownHas frm (ownAdd frm acc p) t, ownOk its C s
    refine ih (fun q hq => hh q (by simp [hq])) _ ?_
    unfold ownAdd
    split
    · exact h
    · intro s hs
      rcases List.mem_append.1 hs with g | g
      · exact h s g
      · simp at g; subst g
        exact ⟨rfl, hf.1, hf.2.1, hf.2.2, hh p (by simp)⟩
theorem ownAll_own {its : List ItemL} {C : Nat} (fs : List Int) (hf : ∀ f ∈ fs, 0 ≤ f ∧ f < (its.length : Int) ∧ C.testBit f.toNat = true) (acc : List StepL) (h : ∀ s ∈ acc, ownOk its C s) : ∀ s ∈ ownAll its acc fs, ownOk its C s := by
  induction fs generalizing acc with
  | nil => exact h
  | cons f t ih =>
    show ∀ s ∈ ownAll its (ownItem its acc f) t, ownOk its C s
    refine ih (fun q hq => hf q (by simp [hq])) _ ?_
    exact ownHas_own f (hf f (by simp)) _ (fun p hp => hp) acc h
theorem own_right {its : List ItemL} (rls : List RuleL) {C : Nat} (l : List StepL) (h : ∀ s ∈ l, ownOk its C s) (M : Nat) : stepsB its rls C M l = true := by
  induction l generalizing M with
  | nil => rfl
  | cons s t ih =>
    show (stepB its rls C M s && stepsB its rls C (M ||| 2 ^ s.1.toNat) t) = true
    rw [ih (fun q hq => h q (by simp [hq])), Bool.and_true]
    obtain ⟨h1, h2, h3, h4, h5⟩ := h s (by simp)
    unfold stepB
    rw [if_pos h1]
    simp
    exact ⟨h2, h3, h4, h5⟩
theorem findRule_fires {M : Nat} {rls : List RuleL} {k j : Nat} {p : Int} (h : findRule M rls k = some (j, p)) : fires M (rlAt rls (j - k)) = true := by
  induction rls generalizing k with
  | nil => simp [findRule] at h
  | cons r t ih =>
    rw [findRule] at h
    split at h
    · rename_i hf
      simp at h
      obtain ⟨rfl, rfl⟩ := h
      rw [Nat.sub_self]
      exact hf
    · have h1 := (findRule_mem M t (k + 1) j p h).1
      have := ih h
      rw [show j - k = (j - (k + 1)) + 1 by omega]
      exact this
/-- The steps by rules are right. -/
theorem run_right {its : List ItemL} {rls : List RuleL} {C : Nat} (ho : RulesOk rls) (M0 : Nat) : ∀ (f : Nat) (st : List StepL) (M : Nat), M = propsFrom M0 st → M < 2 ^ 10 → stepsB its rls C M0 st = true → stepsB its rls C M0 (ruleRun rls f st M) = true := by
  intro f
  induction f with
  | zero => intro st M _ _ h; exact h
  | succ f ih =>
    intro st M hM hlt h
    cases hf : findRule M rls 0 with
    | none => rw [ruleRun_stop rls (f + 1) st M hf]; exact h
    | some kp =>
      obtain ⟨k, p⟩ := kp
      rw [ruleRun_go rls f st M k p hf]
      obtain ⟨_, hk, hp, hb⟩ := findRule_mem M rls 0 k p hf
      have hfi := findRule_fires hf
      rw [Nat.sub_zero] at hfi hp
      rw [Nat.zero_add] at hk
      have hmem := rlAt_mem hk
      have hok := ho _ hmem
      obtain ⟨_, hif⟩ := (fires_iff hok.1 hlt).1 hfi
      have hp2 : (rlAt rls k).2 = p := hp
      refine ih _ _ ?_ (or_lt10 hlt (by rw [← hp2]; exact hok.2)) ?_
      · rw [hM, propsFrom_app]; rfl
      · rw [stepsB_app, h, Bool.true_and, ← hM]
        show (stepB its rls C M (p, -1, (k : Int)) && true) = true
        rw [Bool.and_true]
        unfold stepB
        rw [if_neg (by dsimp only; omega)]
        simp
        exact ⟨by omega, hp2, hif⟩
/-- The own steps and the steps by rules are a proof of all that is in the label. -/
def explL (its : List ItemL) (rls : List RuleL) (n : Nat) : List StepL := ownL its n ++ ruleL rls (propsL (ownL its n))
theorem expl_right {its : List ItemL} {rls : List RuleL} (ho : RulesOk rls) (n : Nat) (hb : ∀ i, (contL its n).testBit i = true → i < its.length) (hl : its.length ≤ 64) (hM : propsL (ownL its n) < 2 ^ 10) : stepsB its rls (contL its n) 0 (explL its rls n) = true := by
  have hown : ∀ s ∈ ownL its n, ownOk its (contL its n) s := by
    unfold ownL
    refine ownAll_own _ (fun f hf => ?_) [] (by simp)
    rw [mem_bitsTo] at hf
    have h := hf
    obtain ⟨i, rfl, h1, h2⟩ := h
    have := hb i h2
    exact ⟨by omega, by omega, by simpa using h2⟩
  unfold explL
  rw [stepsB_app, own_right rls _ hown 0, Bool.true_and, show propsFrom 0 (ownL its n) = propsL (ownL its n) from rfl]
  generalize propsL (ownL its n) = M0 at *
  exact run_right ho M0 11 [] M0 rfl hM rfl
theorem expl_props (its : List ItemL) (rls : List RuleL) (n : Nat) : propsL (explL its rls n) = labM its rls n := by
  unfold explL labM closL
  rw [propsL_app]
end Go.Proofs.Ytdgleicpcjfnoaa
