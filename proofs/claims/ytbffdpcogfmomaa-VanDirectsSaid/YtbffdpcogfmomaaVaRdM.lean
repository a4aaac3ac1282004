/- The document's way of reckoning the least sums of ways, over one place more in each round; it is the same as place by place. Plain mathematics. -/
import Derived.Test.YtbffdpcogfmomaaVaFwM
set_option linter.unusedVariables false
namespace Go.Proofs.Ytbffdpcogfmomaa

/-- One number of a round, when o places have been tried. -/
def rdTo (t : Tbl) (g : Nat → Nat → Int) (i k : Nat) : Nat → Int
  | 0 => g i k
  | o + 1 => min (rdTo t g i k o) (g i o + tA t o k)
def rdM (t : Tbl) : Nat → Nat → Nat → Int
  | 0, i, k => tA t i k
  | r + 1, i, k => rdTo t (rdM t r) i k t.length
theorem rdTo_le0 (t : Tbl) (g : Nat → Nat → Int) (i k : Nat) : ∀ o, rdTo t g i k o ≤ g i k := by
  intro o
  induction o with
  | zero => exact Int.le_refl _
  | succ o ih => simp only [rdTo]; omega
theorem rdTo_le (t : Tbl) (g : Nat → Nat → Int) (i k : Nat) : ∀ o p, p < o → rdTo t g i k o ≤ g i p + tA t p k := by
  intro o
  induction o with
  | zero => intro p hp; omega
  | succ o ih =>
    intro p hp
    simp only [rdTo]
    by_cases e : p = o
    · subst e; omega
    · have := ih p (by omega); omega
theorem rdTo_ge (t : Tbl) (g : Nat → Nat → Int) (i k : Nat) (b : Int) (h0 : b ≤ g i k) : ∀ o, (∀ p, p < o → b ≤ g i p + tA t p k) → b ≤ rdTo t g i k o := by
  intro o
  induction o with
  | zero => intro _; exact h0
  | succ o ih =>
    intro h
    have h1 := ih (fun p hp => h p (by omega))
    have h2 := h o (by omega)
    simp only [rdTo]; omega
theorem fwM_mono (t : Tbl) (k i j : Nat) : fwM t (k + 1) i j ≤ fwM t k i j := by rw [fwM_succ]; omega
theorem fwM_le (t : Tbl) (i j : Nat) : ∀ k, fwM t k i j ≤ tA t i j := by
  intro k
  induction k with
  | zero => exact Int.le_refl _
  | succ k ih => have := fwM_mono t k i j; omega
theorem fw_le_rd {t : Tbl} (ht : Ways t) : ∀ r i k, i < t.length → k < t.length → fwM t t.length i k ≤ rdM t r i k := by
  intro r
  induction r with
  | zero => intro i k _ _; exact fwM_le t i k _
  | succ r ih =>
    intro i k hi hk
    refine rdTo_ge t _ i k _ (ih i k hi hk) _ (fun p hp => ?_)
    have h1 := fwM_tri ht t.length (Nat.le_refl _) p i k hp hi hk
    have h2 := ih i p hi hp
    have h3 := fwM_le t p k t.length
    omega
/-- The sum over a walk from i to k; the list has the places between, the last one first. -/
def qw (t : Tbl) (i : Nat) : List Nat → Nat → Int
  | [], k => tA t i k
  | o :: l, k => qw t i l o + tA t o k
theorem rd_mono (t : Tbl) (r i k : Nat) : rdM t (r + 1) i k ≤ rdM t r i k := rdTo_le0 t _ i k _
theorem rd_le_qw (t : Tbl) (i : Nat) : ∀ (l : List Nat) (r k : Nat), l.length ≤ r → (∀ o ∈ l, o < t.length) → rdM t r i k ≤ qw t i l k := by
  intro l
  induction l with
  | nil =>
    intro r k _ _
    simp only [qw]
    have h : ∀ r, rdM t r i k ≤ tA t i k := by
      intro r
      induction r with
      | zero => exact Int.le_refl _
      | succ r ih => have := rd_mono t r i k; omega
    exact h r
  | cons o l ih =>
    intro r k hr hl
    match r, hr with
    | r + 1, hr =>
      have h1 := ih r o (by simpa using hr) (fun x hx => hl x (by simp [hx]))
      have h2 := rdTo_le t (rdM t r) i k t.length o (hl o (by simp))
      simp only [qw]
      have h3 : rdM t (r + 1) i k ≤ rdM t r i o + tA t o k := h2
      omega
theorem qw_app (t : Tbl) (i : Nat) (o : Nat) (c : List Nat) : ∀ (a : List Nat) (k : Nat), qw t i (a ++ o :: c) k = qw t i c o + qw t o a k := by
  intro a
  induction a with
  | nil => intro k; simp [qw]
  | cons x a ih =>
    intro k
    simp only [List.cons_append, qw]
    rw [ih x]
    omega
theorem qw_nonneg {t : Tbl} (ht : Ways t) : ∀ (l : List Nat) (i k : Nat), i < t.length → k < t.length → (∀ o ∈ l, o < t.length) → 0 ≤ qw t i l k := by
  intro l
  induction l with
  | nil => intro i k hi hk _; exact (ht.bd i k hi hk).1
  | cons o l ih =>
    intro i k hi hk hl
    have h1 := ih i o hi (hl o (by simp)) (fun x hx => hl x (by simp [hx]))
    have h2 := (ht.bd o k (hl o (by simp)) hk).1
    simp only [qw]; omega
/-- A list with a repetition. -/
theorem dup_split : ∀ l : List Nat, ¬ l.Nodup → ∃ (a b c : List Nat) (x : Nat), l = a ++ x :: (b ++ x :: c) := by
  intro l
  induction l with
  | nil => intro h; exact absurd List.nodup_nil h
  | cons y l ih =>
    intro h
    by_cases hm : y ∈ l
    · obtain ⟨b, c, rfl⟩ := List.append_of_mem hm
      exact ⟨[], b, c, y, rfl⟩
    · have : ¬ l.Nodup := fun hn => h (List.nodup_cons.2 ⟨hm, hn⟩)
      obtain ⟨a, b, c, x, rfl⟩ := ih this
      exact ⟨y :: a, b, c, x, rfl⟩
theorem qw_simple {t : Tbl} (ht : Ways t) {i k : Nat} (hi : i < t.length) (hk : k < t.length) : ∀ (n : Nat) (l : List Nat), l.length ≤ n → (∀ o ∈ l, o < t.length) → ∃ l' : List Nat, l'.Nodup ∧ (∀ o ∈ l', o ∈ l) ∧ qw t i l' k ≤ qw t i l k := by
  intro n
  induction n with
  | zero =>
    intro l hl _
    have : l = [] := List.eq_nil_of_length_eq_zero (by omega)
    subst this
    exact ⟨[], List.nodup_nil, by simp, Int.le_refl _⟩
  | succ n ih =>
    intro l hl hb
    by_cases hn : l.Nodup
    · exact ⟨l, hn, fun _ h => h, Int.le_refl _⟩
    · obtain ⟨a, b, c, x, rfl⟩ := dup_split l hn
      have hx : x < t.length := hb x (by simp)
      have hsub : ∀ o ∈ a ++ x :: c, o ∈ a ++ x :: (b ++ x :: c) := fun o ho => by
        simp only [List.mem_append, List.mem_cons] at ho ⊢
        rcases ho with h | h | h
        · exact .inl h
        · exact .inr (.inl h)
        · exact .inr (.inr (.inr (.inr h)))
      obtain ⟨l', h1, h2, h3⟩ := ih (a ++ x :: c) (by simp at hl ⊢; omega) (fun o ho => hb o (hsub o ho))
      refine ⟨l', h1, fun o ho => hsub o (h2 o ho), ?_⟩
      have h4 := qw_nonneg ht b x x hx hx (fun o ho => hb o (by simp [ho]))
      rw [qw_app] at h3 ⊢
      rw [qw_app]
      omega
theorem nodup_le (n : Nat) : ∀ l : List Nat, l.Nodup → (∀ x ∈ l, x < n) → l.length ≤ n := by
  induction n with
  | zero =>
    intro l _ h
    cases l with
    | nil => exact Nat.le_refl _
    | cons x t => have := h x (by simp); omega
  | succ n ih =>
    intro l hn h
    by_cases hm : n ∈ l
    · obtain ⟨a, b, rfl⟩ := List.append_of_mem hm
      have hp : (a ++ n :: b).Perm (n :: (a ++ b)) := List.perm_middle
      have hn2 := hp.nodup_iff.1 hn
      rw [List.nodup_cons] at hn2
      have i1 := ih (a ++ b) hn2.2 (fun x hx => by
        have h1 := h x (hp.mem_iff.2 (by simp only [List.mem_cons]; exact .inr hx))
        have h2 : x ≠ n := fun e => hn2.1 (e ▸ hx)
        omega)
      simp at i1 ⊢; omega
    · have i1 := ih l hn (fun x hx => by
        have h1 := h x hx
        have h2 : x ≠ n := fun e => hm (e ▸ hx)
        omega)
      omega
/-- What is reckoned place by place is the sum of a walk. -/
theorem fw_walk (t : Tbl) : ∀ k, k ≤ t.length → ∀ i j, i < t.length → j < t.length → ∃ l : List Nat, (∀ o ∈ l, o < t.length) ∧ qw t i l j = fwM t k i j := by
  intro k
  induction k with
  | zero => intro _ i j _ _; exact ⟨[], by simp, rfl⟩
  | succ k ih =>
    intro hk i j hi hj
    obtain ⟨l0, a0, b0⟩ := ih (by omega) i j hi hj
    obtain ⟨l1, a1, b1⟩ := ih (by omega) i k hi (by omega)
    obtain ⟨l2, a2, b2⟩ := ih (by omega) k j (by omega) hj
    rw [fwM_succ]
    by_cases h : fwM t k i j ≤ fwM t k i k + fwM t k k j
    · exact ⟨l0, a0, by rw [b0]; omega⟩
    · refine ⟨l2 ++ k :: l1, fun o ho => ?_, by rw [qw_app, b1, b2]; omega⟩
      simp only [List.mem_append, List.mem_cons] at ho
      rcases ho with h | rfl | h
      · exact a2 o h
      · omega
      · exact a1 o h
theorem rd_fw {t : Tbl} (ht : Ways t) (i j : Nat) (hi : i < t.length) (hj : j < t.length) : rdM t t.length i j = fwM t t.length i j := by
  have h1 := fw_le_rd ht t.length i j hi hj
  obtain ⟨l, a, b⟩ := fw_walk t t.length (Nat.le_refl _) i j hi hj
  obtain ⟨l', c1, c2, c3⟩ := qw_simple ht hi hj l.length l (Nat.le_refl _) a
  have h2 := nodup_le t.length l' c1 (fun x hx => a x (c2 x hx))
  have h3 := rd_le_qw t i l' t.length j h2 (fun x hx => a x (c2 x hx))
  omega
end Go.Proofs.Ytbffdpcogfmomaa
