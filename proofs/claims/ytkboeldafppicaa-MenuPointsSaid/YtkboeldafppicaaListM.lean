/- The machine of a rule: plain functions. -/
set_option linter.unusedVariables false
namespace Go.Proofs.Ytkboeldafppicaa

section
variable {S : Type} [DecidableEq S]
/-- The states and the row behind the first k letters of a state. -/
def rowTo (next : S → Nat → S) (s : S) (sts : List S) : Nat → List S × List Int
  | 0 => (sts, [])
  | k + 1 => if next s k ∈ (rowTo next s sts k).1 then ((rowTo next s sts k).1, (rowTo next s sts k).2 ++ [(((rowTo next s sts k).1.idxOf (next s k) : Nat) : Int)])
      else ((rowTo next s sts k).1 ++ [next s k], (rowTo next s sts k).2 ++ [(((rowTo next s sts k).1.length : Nat) : Int)])
/-- The states, rows and acceptances behind the first i states. -/
def listTo (L : Nat) (next : S → Nat → S) (acc : S → Bool) (s0 : S) : Nat → List S × List (List Int) × List Bool
  | 0 => ([s0], [], [])
  | i + 1 => ((rowTo next ((listTo L next acc s0 i).1[i]?.getD s0) (listTo L next acc s0 i).1 L).1, (listTo L next acc s0 i).2.1 ++ [(rowTo next ((listTo L next acc s0 i).1[i]?.getD s0) (listTo L next acc s0 i).1 L).2], (listTo L next acc s0 i).2.2 ++ [acc ((listTo L next acc s0 i).1[i]?.getD s0)])
theorem rowTo_old (next : S → Nat → S) (s : S) (sts : List S) (k : Nat) (h : next s k ∈ (rowTo next s sts k).1) : rowTo next s sts (k + 1) = ((rowTo next s sts k).1, (rowTo next s sts k).2 ++ [(((rowTo next s sts k).1.idxOf (next s k) : Nat) : Int)]) := by
  rw [rowTo, if_pos h]
theorem rowTo_new (next : S → Nat → S) (s : S) (sts : List S) (k : Nat) (h : ¬ next s k ∈ (rowTo next s sts k).1) : rowTo next s sts (k + 1) = ((rowTo next s sts k).1 ++ [next s k], (rowTo next s sts k).2 ++ [(((rowTo next s sts k).1.length : Nat) : Int)]) := by
  rw [rowTo, if_neg h]
theorem idxOf_get {l : List S} {s : S} (h : s ∈ l) : l.idxOf s < l.length ∧ l[l.idxOf s]? = some s := by
  have h1 := List.idxOf_lt_length_of_mem h
  exact ⟨h1, by rw [List.getElem?_eq_getElem h1, List.getElem_idxOf h1]⟩
theorem rowTo_had (next : S → Nat → S) (s : S) (sts : List S) (k : Nat) (h : next s k ∈ (rowTo next s sts k).1) : ∃ j : Nat, j < (rowTo next s sts k).1.length ∧ (rowTo next s sts k).1[j]? = some (next s k) ∧ rowTo next s sts (k + 1) = ((rowTo next s sts k).1, (rowTo next s sts k).2 ++ [(j : Int)]) :=
  ⟨_, (idxOf_get h).1, (idxOf_get h).2, rowTo_old next s sts k h⟩
theorem rowTo_len (next : S → Nat → S) (s : S) (sts : List S) (k : Nat) : (rowTo next s sts k).2.length = k := by
  induction k with
  | zero => rfl
  | succ k ih => rw [rowTo]; split <;> simp [ih]
theorem rowTo_ok (next : S → Nat → S) (s : S) (sts : List S) {Pd : S → Prop} (L : Nat) (hcl : ∀ c, c < L → Pd (next s c)) (hn : sts.Nodup) (hp : ∀ t ∈ sts, Pd t) (k : Nat) (hk : k ≤ L) :
    (rowTo next s sts k).1.Nodup ∧ (∀ t ∈ (rowTo next s sts k).1, Pd t) ∧ sts <+: (rowTo next s sts k).1 := by
  induction k with
  | zero => exact ⟨hn, hp, List.prefix_refl _⟩
  | succ k ih =>
    obtain ⟨h1, h2, h3⟩ := ih (by omega)
    rw [rowTo]
    split
    · exact ⟨h1, h2, h3⟩
    · rename_i hnot
      refine ⟨?_, ?_, h3.trans (List.prefix_append _ _)⟩
      · rw [List.nodup_append]
        exact ⟨h1, by simp, fun a ha b hb hh => by simp at hb; subst hb; subst hh; exact hnot ha⟩
      · intro t ht
        rcases List.mem_append.1 ht with ht | ht
        · exact h2 t ht
        · simp at ht; subst ht; exact hcl k (by omega)
theorem listTo_len (L : Nat) (next : S → Nat → S) (acc : S → Bool) (s0 : S) (i : Nat) : (listTo L next acc s0 i).2.1.length = i ∧ (listTo L next acc s0 i).2.2.length = i := by
  induction i with
  | zero => exact ⟨rfl, rfl⟩
  | succ i ih => rw [listTo]; simp [ih]
theorem listTo_ok (L : Nat) (next : S → Nat → S) (acc : S → Bool) (s0 : S) {Pd : S → Prop} (hcl : ∀ s c, Pd s → c < L → Pd (next s c)) (h0 : Pd s0) (i : Nat) :
    (listTo L next acc s0 i).1.Nodup ∧ (∀ t ∈ (listTo L next acc s0 i).1, Pd t) ∧ 0 < (listTo L next acc s0 i).1.length := by
  induction i with
  | zero => exact ⟨by simp [listTo], fun t ht => by simp [listTo] at ht; subst ht; exact h0, by simp [listTo]⟩
  | succ i ih =>
    obtain ⟨h1, h2, h3⟩ := ih
    have hs : Pd ((listTo L next acc s0 i).1[i]?.getD s0) := by
      cases h : (listTo L next acc s0 i).1[i]? with
      | none => exact h0
      | some t => exact h2 t (List.mem_of_getElem? h)
    obtain ⟨g1, g2, g3⟩ := rowTo_ok next _ (listTo L next acc s0 i).1 L (fun c hc => hcl _ c hs hc) h1 h2 L (Nat.le_refl _)
    rw [listTo]
    exact ⟨g1, g2, Nat.lt_of_lt_of_le h3 g3.length_le⟩
theorem rowTo_rows (L : Nat) (next : S → Nat → S) (acc : S → Bool) (s0 : S) (i : Nat) : ∀ r ∈ (listTo L next acc s0 i).2.1, r.length = L := by
  induction i with
  | zero => intro r hr; simp [listTo] at hr
  | succ i ih =>
    intro r hr
    rw [listTo] at hr
    rcases List.mem_append.1 hr with h | h
    · exact ih r h
    · simp at h; subst h; exact rowTo_len _ _ _ _
theorem rowTo_ent (next : S → Nat → S) (s : S) (sts : List S) (k : Nat) : sts.length ≤ (rowTo next s sts k).1.length ∧ ∀ x ∈ (rowTo next s sts k).2, 0 ≤ x ∧ x < ((rowTo next s sts k).1.length : Int) := by
  induction k with
  | zero => exact ⟨Nat.le_refl _, fun x hx => by simp [rowTo] at hx⟩
  | succ k ih =>
    obtain ⟨h1, h2⟩ := ih
    by_cases hm : next s k ∈ (rowTo next s sts k).1
    · rw [rowTo_old _ _ _ _ hm]
      refine ⟨h1, fun x hx => ?_⟩
      rcases List.mem_append.1 hx with hx | hx
      · exact h2 x hx
      · simp at hx
        have := (idxOf_get hm).1
        subst hx
        dsimp only
        omega
    · rw [rowTo_new _ _ _ _ hm]
      dsimp only
      rw [List.length_append, List.length_singleton]
      refine ⟨by omega, fun x hx => ?_⟩
      rcases List.mem_append.1 hx with hx | hx
      · have := h2 x hx; omega
      · simp at hx; omega
theorem listTo_ent (L : Nat) (next : S → Nat → S) (acc : S → Bool) (s0 : S) (i : Nat) : ∀ r ∈ (listTo L next acc s0 i).2.1, ∀ x ∈ r, 0 ≤ x ∧ x < ((listTo L next acc s0 i).1.length : Int) := by
  induction i with
  | zero => intro r hr; simp [listTo] at hr
  | succ i ih =>
    obtain ⟨h1, h2⟩ := rowTo_ent next ((listTo L next acc s0 i).1[i]?.getD s0) (listTo L next acc s0 i).1 L
    intro r hr x hx
    rw [listTo] at hr ⊢
    dsimp only at hr ⊢
    rcases List.mem_append.1 hr with h | h
    · have := ih r h x hx; omega
    · simp at h; subst h; exact h2 x hx
end
theorem nodup_bound (M : Nat) : ∀ l : List Nat, l.Nodup → (∀ x ∈ l, x < M) → l.length ≤ M := by
  induction M with
  | zero => intro l _ h; cases l with
    | nil => simp
    | cons x t => exact absurd (h x (by simp)) (by omega)
  | succ M ih =>
    intro l hn h
    have h1 := ih (l.erase M) (hn.erase M) (fun x hx => by
      have hx' := List.mem_of_mem_erase hx
      have := h x hx'
      have hne : x ≠ M := fun e => by subst e; exact absurd hx hn.not_mem_erase
      omega)
    have h2 := List.length_erase (a := M) (l := l)
    split at h2 <;> omega
/-- A list without repeats whose elements have different codes below M is no longer than M. -/
theorem coded_bound {S : Type} (code : S → Nat) (M : Nat) (l : List S) (hn : l.Nodup) (hlt : ∀ x ∈ l, code x < M) (hinj : ∀ x ∈ l, ∀ y ∈ l, code x = code y → x = y) : l.length ≤ M := by
  have : (l.map code).Nodup := by
    rw [List.nodup_iff_pairwise_ne, List.pairwise_map]
    exact (List.Pairwise.and_mem.1 hn).imp (fun h hh => h.2.2 (hinj _ h.1 _ h.2.1 hh))
  have h2 := nodup_bound M (l.map code) this (fun x hx => by
    obtain ⟨y, hy, rfl⟩ := List.mem_map.1 hx; exact hlt y hy)
  simpa using h2
end Go.Proofs.Ytkboeldafppicaa
