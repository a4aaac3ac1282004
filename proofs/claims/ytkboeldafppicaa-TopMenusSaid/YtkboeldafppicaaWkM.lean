/- Two machines read together: the pairs of states that words lead to, each with its first word: mathematics. -/
import Derived.Test.YtkboeldafppicaaKindM
import Derived.Test.YtkboeldafppicaaTwoK
import Derived.Test.YtkboeldafppicaaMaP
set_option linter.unusedVariables false
namespace Go.Proofs.Ytkboeldafppicaa

/-- The pair of states behind a letter. -/
def tw (ra rb : List (List Int)) (s : Two) (c : Nat) : Two := ((mN ra s.1.toNat c : Int), (mN rb s.2.toNat c : Int))
/-- A pair of states of two machines. -/
def InT (ra rb : List (List Int)) (s : Two) : Prop := ∃ i j : Nat, s = ((i : Int), (j : Int)) ∧ i < ra.length ∧ j < rb.length
theorem inT_start {ra rb : List (List Int)} (h : 0 < ra.length) (h' : 0 < rb.length) : InT ra rb (0, 0) := ⟨0, 0, rfl, h, h'⟩
theorem inT_next {L : Nat} {ra rb : List (List Int)} (hcl : ∀ s c, s < ra.length → c < L → mN ra s c < ra.length) (hcl' : ∀ s c, s < rb.length → c < L → mN rb s c < rb.length) : ∀ s c, InT ra rb s → c < L → InT ra rb (tw ra rb s c) := by
  rintro s c ⟨i, j, rfl, hi, hj⟩ hc
  exact ⟨mN ra i c, mN rb j c, by unfold tw; simp, hcl i c hi hc, hcl' j c hj hc⟩
theorem inT_bound {ra rb : List (List Int)} : ∀ l : List Two, l.Nodup → (∀ s ∈ l, InT ra rb s) → l.length ≤ ra.length * rb.length := by
  intro l hn h
  refine coded_bound (fun s : Two => s.1.toNat * rb.length + s.2.toNat) _ l hn (fun x hx => ?_) (fun x hx y hy e => ?_)
  · obtain ⟨i, j, rfl, hi, hj⟩ := h x hx
    simp only [Int.toNat_natCast]
    have : i * rb.length + rb.length ≤ ra.length * rb.length := by
      have := Nat.mul_le_mul_right rb.length (show i + 1 ≤ ra.length from hi)
      rw [Nat.add_mul] at this; omega
    omega
  · obtain ⟨i, j, rfl, hi, hj⟩ := h x hx
    obtain ⟨i', j', rfl, hi', hj'⟩ := h y hy
    simp only [Int.toNat_natCast] at e
    have h1 : (i * rb.length + j) / rb.length = i := by
      rw [Nat.add_comm, Nat.add_mul_div_right _ _ (by omega), Nat.div_eq_of_lt hj, Nat.zero_add]
    have h2 : (i' * rb.length + j') / rb.length = i' := by
      rw [Nat.add_comm, Nat.add_mul_div_right _ _ (by omega), Nat.div_eq_of_lt hj', Nat.zero_add]
    rw [e, h2] at h1
    subst h1
    have : j = j' := by omega
    subst this; rfl
section
variable {S : Type} [DecidableEq S]
/-- The words behind k letters of a state. -/
def wRow (next : S → Nat → S) (s : S) (wd : List Int) (sts : List S) (wds : List (List Int)) : Nat → List (List Int)
  | 0 => wds
  | k + 1 => if next s k ∈ (rowTo next s sts k).1 then wRow next s wd sts wds k else wRow next s wd sts wds k ++ [wd ++ [(k : Int)]]
/-- The words behind the first i states. -/
def wTo (L : Nat) (next : S → Nat → S) (acc : S → Bool) (s0 : S) : Nat → List (List Int)
  | 0 => [[]]
  | i + 1 => wRow next ((listTo L next acc s0 i).1[i]?.getD s0) ((wTo L next acc s0 i)[i]?.getD []) (listTo L next acc s0 i).1 (wTo L next acc s0 i) L
theorem row_step (next : S → Nat → S) (s : S) (wd : List Int) (sts : List S) (wds : List (List Int)) (k : Nat) :
    (next s k ∈ (rowTo next s sts k).1 → (rowTo next s sts (k + 1)).1 = (rowTo next s sts k).1 ∧ wRow next s wd sts wds (k + 1) = wRow next s wd sts wds k) ∧
    (¬ next s k ∈ (rowTo next s sts k).1 → (rowTo next s sts (k + 1)).1 = (rowTo next s sts k).1 ++ [next s k] ∧ wRow next s wd sts wds (k + 1) = wRow next s wd sts wds k ++ [wd ++ [(k : Int)]]) :=
  ⟨fun h => ⟨by rw [rowTo_old _ _ _ _ h], by rw [wRow, if_pos h]⟩, fun h => ⟨by rw [rowTo_new _ _ _ _ h], by rw [wRow, if_neg h]⟩⟩
theorem wRow_len (next : S → Nat → S) (s : S) (wd : List Int) (sts : List S) (wds : List (List Int)) (h : wds.length = sts.length) (k : Nat) : (wRow next s wd sts wds k).length = (rowTo next s sts k).1.length := by
  induction k with
  | zero => exact h
  | succ k ih =>
    rw [wRow]
    by_cases hm : next s k ∈ (rowTo next s sts k).1
    · rw [if_pos hm, rowTo_old _ _ _ _ hm]; exact ih
    · rw [if_neg hm, rowTo_new _ _ _ _ hm]; simp [ih]
theorem wTo_len (L : Nat) (next : S → Nat → S) (acc : S → Bool) (s0 : S) (i : Nat) : (wTo L next acc s0 i).length = (listTo L next acc s0 i).1.length := by
  induction i with
  | zero => rfl
  | succ i ih => rw [wTo, listTo]; exact wRow_len _ _ _ _ _ ih _
theorem wRow_pre (next : S → Nat → S) (s : S) (wd : List Int) (sts : List S) (wds : List (List Int)) (k : Nat) : wds <+: wRow next s wd sts wds k := by
  induction k with
  | zero => exact List.prefix_refl _
  | succ k ih =>
    rw [wRow]; split
    · exact ih
    · exact ih.trans (List.prefix_append _ _)
/-- A word is at most as long as there are states behind it, and each of its letters is one. -/
theorem wRow_ok (next : S → Nat → S) (s : S) (wd : List Int) (sts : List S) (wds : List (List Int)) (L B : Nat) (hw : wd.length < B ∧ ∀ x ∈ wd, 0 ≤ x ∧ x < L) (h : ∀ u ∈ wds, u.length ≤ B ∧ ∀ x ∈ u, 0 ≤ x ∧ x < L) (k : Nat) (hk : k ≤ L) : ∀ u ∈ wRow next s wd sts wds k, u.length ≤ B ∧ ∀ x ∈ u, 0 ≤ x ∧ x < L := by
  induction k with
  | zero => exact h
  | succ k ih =>
    rw [wRow]; split
    · exact ih (by omega)
    · intro u hu
      rcases List.mem_append.1 hu with hu | hu
      · exact ih (by omega) u hu
      · simp at hu; subst hu
        refine ⟨by simp; omega, fun x hx => ?_⟩
        rcases List.mem_append.1 hx with hx | hx
        · exact hw.2 x hx
        · simp at hx; subst hx; omega
theorem wTo_ok (L : Nat) (next : S → Nat → S) (acc : S → Bool) (s0 : S) (i : Nat) : ∀ u ∈ wTo L next acc s0 i, u.length ≤ i ∧ ∀ x ∈ u, 0 ≤ x ∧ x < L := by
  induction i with
  | zero => intro u hu; simp [wTo] at hu; subst hu; simp
  | succ i ih =>
    rw [wTo]
    refine wRow_ok _ _ _ _ _ L (i + 1) ?_ (fun u hu => ⟨by have := (ih u hu).1; omega, (ih u hu).2⟩) L (Nat.le_refl _)
    cases h : (wTo L next acc s0 i)[i]? with
    | none => simp
    | some u => have := ih u (List.mem_of_getElem? h); exact ⟨by simp; omega, this.2⟩
/-- The listing's states do not depend on which are accepted. -/
theorem listTo_acc (L : Nat) (next : S → Nat → S) (acc acc' : S → Bool) (s0 : S) (i : Nat) : (listTo L next acc s0 i).1 = (listTo L next acc' s0 i).1 ∧ (listTo L next acc s0 i).2.1 = (listTo L next acc' s0 i).2.1 := by
  induction i with
  | zero => exact ⟨rfl, rfl⟩
  | succ i ih => rw [listTo, listTo]; obtain ⟨h1, h2⟩ := ih; rw [h1, h2]; exact ⟨rfl, rfl⟩
theorem wTo_acc (L : Nat) (next : S → Nat → S) (acc acc' : S → Bool) (s0 : S) (i : Nat) : wTo L next acc s0 i = wTo L next acc' s0 i := by
  induction i with
  | zero => rfl
  | succ i ih => rw [wTo, wTo, ih, (listTo_acc L next acc acc' s0 i).1]
end
end Go.Proofs.Ytkboeldafppicaa
