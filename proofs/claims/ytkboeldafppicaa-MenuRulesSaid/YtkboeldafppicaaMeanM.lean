/- What a word means to the rules Apart, Never, Least and Most: plain mathematics. -/
set_option linter.unusedVariables false
set_option linter.unusedSimpArgs false
namespace Go.Proofs.Ytkboeldafppicaa

/-- The letter at a place. -/
def ltr (l : List Int) (i : Nat) : Int := l[i]?.getD 0
/-- A rule's state behind the first k letters. -/
def stK {S : Type} (next : S → Nat → S) (s0 : S) (l : List Int) : Nat → S
  | 0 => s0
  | k + 1 => next (stK next s0 l k) (ltr l k).toNat
theorem take_snoc (l : List Int) (k : Nat) (h : k < l.length) : l.take (k + 1) = l.take k ++ [ltr l k] := by
  rw [List.take_succ_eq_append_getElem h]
  unfold ltr
  rw [List.getElem?_eq_getElem h]
  rfl
theorem stK_fold {S : Type} (next : S → Nat → S) (s0 : S) (l : List Int) : ∀ k, k ≤ l.length → ((l.take k).map Int.toNat).foldl next s0 = stK next s0 l k
  | 0, _ => by simp [stK]
  | k + 1, h => by
    rw [take_snoc l k (by omega), List.map_append, List.foldl_append, stK_fold next s0 l k (by omega)]
    rfl
theorem stK_all {S : Type} (next : S → Nat → S) (s0 : S) (l : List Int) : (l.map Int.toNat).foldl next s0 = stK next s0 l l.length := by
  have := stK_fold next s0 l l.length (Nat.le_refl _)
  rwa [List.take_length] at this

/-- Two equal letters too near to one another, the later one before place k. -/
def Near (d : Int) (l : List Int) (k : Nat) : Prop := ∃ i j : Nat, i < k ∧ j < i ∧ (i : Int) - d + 1 ≤ j ∧ ltr l i = ltr l j
/-- The letter n places back. -/
def bk (l : List Int) (k n : Nat) : Int := if n ≤ k then ltr l (k - n) else -1
theorem near_succ {d : Int} {l : List Int} {k : Nat} : Near d l (k + 1) ↔ Near d l k ∨ ∃ j : Nat, j < k ∧ (k : Int) - d + 1 ≤ j ∧ ltr l k = ltr l j := by
  constructor
  · rintro ⟨i, j, h1, h2, h3, h4⟩
    by_cases e : i = k
    · subst e; exact .inr ⟨j, h2, h3, h4⟩
    · exact .inl ⟨i, j, by omega, h2, h3, h4⟩
  · rintro (⟨i, j, h1, h2, h3, h4⟩ | ⟨j, h2, h3, h4⟩)
    · exact ⟨i, j, by omega, h2, h3, h4⟩
    · exact ⟨k, j, by omega, h2, h3, h4⟩
theorem near_zero (d : Int) (l : List Int) : ¬ Near d l 0 := by rintro ⟨i, j, h, _⟩; omega
theorem near_last {d : Int} (hd : 0 ≤ d ∧ d ≤ 3) {l : List Int} {k : Nat} (h0 : 0 ≤ ltr l k) : (∃ j : Nat, j < k ∧ (k : Int) - d + 1 ≤ j ∧ ltr l k = ltr l j) ↔ (2 ≤ d ∧ ltr l k = bk l k 1) ∨ (3 ≤ d ∧ ltr l k = bk l k 2) := by
  unfold bk
  constructor
  · rintro ⟨j, h1, h2, h3⟩
    by_cases e : j + 1 = k
    · left
      refine ⟨by omega, ?_⟩
      rw [if_pos (by omega), h3]
      congr 1
      omega
    · right
      refine ⟨by omega, ?_⟩
      rw [if_pos (by omega), h3]
      congr 1
      omega
  · rintro (⟨h1, h2⟩ | ⟨h1, h2⟩)
    · by_cases e : 1 ≤ k
      · rw [if_pos e] at h2
        exact ⟨k - 1, by omega, by omega, h2⟩
      · rw [if_neg e] at h2; omega
    · by_cases e : 2 ≤ k
      · rw [if_pos e] at h2
        exact ⟨k - 2, by omega, by omega, h2⟩
      · rw [if_neg e] at h2; omega
theorem bk_succ (l : List Int) (k n : Nat) : bk l (k + 1) (n + 1) = if n = 0 then ltr l k else bk l k n := by
  unfold bk
  by_cases e : n = 0
  · subst e; simp
  · rw [if_neg e]
    by_cases h : n ≤ k
    · rw [if_pos h, if_pos (by omega)]; congr 1; omega
    · rw [if_neg h, if_neg (by omega)]
theorem ap_state (apN : Int → Int × Int × Bool → Nat → Int × Int × Bool) (d : Int) (hap : ∀ (s : Int × Int × Bool) (c : Nat), ((s.2.2 = true ∨ (2 ≤ d ∧ (c : Int) = s.1) ∨ (3 ≤ d ∧ (c : Int) = s.2.1)) → apN d s c = (0, 0, true)) ∧ (¬ (s.2.2 = true ∨ (2 ≤ d ∧ (c : Int) = s.1) ∨ (3 ≤ d ∧ (c : Int) = s.2.1)) → apN d s c = ((c : Int), s.1, false))) (hd : 0 ≤ d ∧ d ≤ 3) (l : List Int) (h0 : ∀ i, 0 ≤ ltr l i) :
    ∀ k, (Near d l k → stK (apN d) (-1, -1, false) l k = (0, 0, true)) ∧ (¬ Near d l k → stK (apN d) (-1, -1, false) l k = (bk l k 1, bk l k 2, false))
  | 0 => ⟨fun h => absurd h (near_zero d l), fun _ => by simp [stK, bk]⟩
  | k + 1 => by
    obtain ⟨i1, i2⟩ := ap_state apN d hap hd l h0 k
    have hc : (((ltr l k).toNat : Nat) : Int) = ltr l k := by have := h0 k; omega
    constructor
    · intro h
      show apN d (stK (apN d) (-1, -1, false) l k) (ltr l k).toNat = _
      rcases near_succ.1 h with h | h
      · exact (hap (stK (apN d) (-1, -1, false) l k) (ltr l k).toNat).1 (.inl (by rw [i1 h]))
      · by_cases hn : Near d l k
        · exact (hap (stK (apN d) (-1, -1, false) l k) (ltr l k).toNat).1 (.inl (by rw [i1 hn]))
        · refine (hap (stK (apN d) (-1, -1, false) l k) (ltr l k).toNat).1 (.inr ?_)
          rw [i2 hn, hc]
          exact (near_last hd (h0 k)).1 h
    · intro h
      show apN d (stK (apN d) (-1, -1, false) l k) (ltr l k).toNat = _
      have hn : ¬ Near d l k := fun hh => h (near_succ.2 (.inl hh))
      have hl : ¬ ((2 ≤ d ∧ ltr l k = bk l k 1) ∨ (3 ≤ d ∧ ltr l k = bk l k 2)) := fun hh => h (near_succ.2 (.inr ((near_last hd (h0 k)).2 hh)))
      rw [(hap (stK (apN d) (-1, -1, false) l k) (ltr l k).toNat).2 (by rw [i2 hn, hc]; rintro (e | e); cases e; exact hl e), i2 hn, hc, bk_succ, bk_succ]
      simp

/-- How often a letter comes among the first k. -/
def tms (a : Int) (l : List Int) : Nat → Int
  | 0 => 0
  | k + 1 => if ltr l k = a then tms a l k + 1 else tms a l k
theorem tms_nn (a : Int) (l : List Int) : ∀ k, 0 ≤ tms a l k ∧ tms a l k ≤ k
  | 0 => by simp [tms]
  | k + 1 => by
    have := tms_nn a l k
    unfold tms
    split <;> omega
def ctN (a e : Int) (s : Int) (c : Nat) : Int := if (c : Int) = a ∧ s < e then s + 1 else s
theorem ct_state (a e : Int) (he : 0 ≤ e) (l : List Int) (h0 : ∀ i, 0 ≤ ltr l i) : ∀ k, stK (ctN a e) 0 l k = min (tms a l k) e
  | 0 => by simp [stK, tms]; omega
  | k + 1 => by
    have ih := ct_state a e he l h0 k
    have hc : (((ltr l k).toNat : Nat) : Int) = ltr l k := by have := h0 k; omega
    show ctN a e (stK (ctN a e) 0 l k) (ltr l k).toNat = _
    rw [ih]
    unfold ctN
    rw [hc, show tms a l (k + 1) = if ltr l k = a then tms a l k + 1 else tms a l k from rfl]
    generalize tms a l k = x
    by_cases h1 : ltr l k = a
    · by_cases h2 : min x e < e
      · rw [if_pos ⟨h1, h2⟩, if_pos h1]; omega
      · rw [if_neg (fun hh => h2 hh.2), if_pos h1]; omega
    · rw [if_neg (fun hh => h1 hh.1), if_neg h1]
def leK (t : Int) (s : Int) : Bool := decide (t ≤ s)
def moK (t : Int) (s : Int) : Bool := decide (s ≤ t)
/-- The second letter directly behind the first one, before place k. -/
def Brk (a b : Int) (l : List Int) (k : Nat) : Prop := ∃ i : Nat, i < k ∧ 0 < i ∧ ltr l (i - 1) = a ∧ ltr l i = b
theorem brk_succ {a b : Int} {l : List Int} {k : Nat} : Brk a b l (k + 1) ↔ Brk a b l k ∨ (0 < k ∧ ltr l (k - 1) = a ∧ ltr l k = b) := by
  constructor
  · rintro ⟨i, h1, h2, h3, h4⟩
    by_cases e : i = k
    · subst e; exact .inr ⟨h2, h3, h4⟩
    · exact .inl ⟨i, by omega, h2, h3, h4⟩
  · rintro (⟨i, h1, h2, h3, h4⟩ | ⟨h2, h3, h4⟩)
    · exact ⟨i, by omega, h2, h3, h4⟩
    · exact ⟨k, by omega, h2, h3, h4⟩
theorem brk_zero (a b : Int) (l : List Int) : ¬ Brk a b l 0 := by rintro ⟨i, h, _⟩; omega
def nvN (a b : Int) (s : Int) (c : Nat) : Int := if s = 2 ∨ (s = 1 ∧ (c : Int) = b) then 2 else if (c : Int) = a then 1 else 0
def nvK (s : Int) : Bool := decide (s ≠ 2)
theorem nv_state (a b : Int) (l : List Int) (h0 : ∀ i, 0 ≤ ltr l i) : ∀ k, (Brk a b l k → stK (nvN a b) 0 l k = 2) ∧ (¬ Brk a b l k → stK (nvN a b) 0 l k = if 0 < k ∧ ltr l (k - 1) = a then 1 else 0)
  | 0 => ⟨fun h => absurd h (brk_zero a b l), fun _ => by simp [stK]⟩
  | k + 1 => by
    obtain ⟨i1, i2⟩ := nv_state a b l h0 k
    have hc : (((ltr l k).toNat : Nat) : Int) = ltr l k := by have := h0 k; omega
    constructor
    · intro h
      show nvN a b (stK (nvN a b) 0 l k) (ltr l k).toNat = _
      by_cases hn : Brk a b l k
      · rw [i1 hn]; simp [nvN]
      · rcases brk_succ.1 h with h | ⟨h1, h2, h3⟩
        · exact absurd h hn
        · rw [i2 hn, if_pos ⟨h1, h2⟩]
          unfold nvN
          rw [if_pos (.inr ⟨rfl, by rw [hc]; exact h3⟩)]
    · intro h
      show nvN a b (stK (nvN a b) 0 l k) (ltr l k).toNat = _
      have hn : ¬ Brk a b l k := fun hh => h (brk_succ.2 (.inl hh))
      have hl : ¬ (0 < k ∧ ltr l (k - 1) = a ∧ ltr l k = b) := fun hh => h (brk_succ.2 (.inr hh))
      rw [i2 hn]
      unfold nvN
      rw [hc]
      have h3 : k + 1 - 1 = k := by omega
      rw [h3]
      by_cases g : 0 < k ∧ ltr l (k - 1) = a
      · rw [if_pos g, if_neg (by rintro (e | ⟨_, e⟩); omega; exact hl ⟨g.1, g.2, e⟩)]
        by_cases q : ltr l k = a
        · rw [if_pos q, if_pos ⟨by omega, q⟩]
        · rw [if_neg q, if_neg (by rintro ⟨_, e⟩; exact q e)]
      · rw [if_neg g, if_neg (by rintro (e | ⟨e, _⟩) <;> omega)]
        by_cases q : ltr l k = a
        · rw [if_pos q, if_pos ⟨by omega, q⟩]
        · rw [if_neg q, if_neg (by rintro ⟨_, e⟩; exact q e)]
end Go.Proofs.Ytkboeldafppicaa
