/- Turned forms of a list, and the first one of them: mathematics. -/
set_option linter.unusedVariables false
namespace Go.Proofs.Ytkboeldafppicaa

/-- Whether a list comes before another one of its length. -/
def lessL : List Int → List Int → Bool
  | x :: s, y :: t => if x = y then lessL s t else decide (x < y)
  | _, _ => false
def rotL (l : List Int) (i : Nat) : List Int := l.drop i ++ l.take i
/-- The first one of the first k turned forms. -/
def fstK (l : List Int) : Nat → List Int
  | 0 => l
  | i + 1 => if lessL (rotL l i) (fstK l i) = true then rotL l i else fstK l i
theorem lessL_irrefl : ∀ a : List Int, lessL a a = false
  | [] => rfl
  | x :: s => by rw [lessL, if_pos rfl]; exact lessL_irrefl s
theorem lessL_total : ∀ a b : List Int, a.length = b.length → lessL a b = false → lessL b a = false → a = b
  | [], [], _, _, _ => rfl
  | [], y :: t, h, _, _ => by simp at h
  | x :: s, [], h, _, _ => by simp at h
  | x :: s, y :: t, h, h1, h2 => by
    by_cases e : x = y
    · subst e
      rw [lessL, if_pos rfl] at h1 h2
      rw [lessL_total s t (by simpa using h) h1 h2]
    · rw [lessL, if_neg e] at h1
      rw [lessL, if_neg (fun h => e h.symm)] at h2
      simp at h1 h2; omega
theorem lessL_trans : ∀ a b c : List Int, a.length = b.length → b.length = c.length → lessL a b = true → lessL b c = true → lessL a c = true
  | [], b, c, _, _, h1, _ => by simp [lessL] at h1
  | x :: s, [], c, _, _, h1, _ => by simp [lessL] at h1
  | x :: s, y :: t, [], _, _, _, h2 => by simp [lessL] at h2
  | x :: s, y :: t, z :: u, l1, l2, h1, h2 => by
    rw [lessL] at h1 h2 ⊢
    split at h1
    · rename_i e; subst e
      split at h2
      · rename_i e; subst e
        rw [if_pos rfl]
        exact lessL_trans s t u (by simpa using l1) (by simpa using l2) h1 h2
      · rename_i e; rw [if_neg e]; exact h2
    · rename_i e
      split at h2
      · rename_i e2; subst e2; rw [if_neg e]; exact h1
      · rename_i e2; simp at h1 h2; rw [if_neg (by omega)]; simp; omega
theorem rotL_len (l : List Int) (i : Nat) : (rotL l i).length = l.length := by
  unfold rotL; rw [List.length_append, List.length_drop, List.length_take]; omega
theorem rotL_zero (l : List Int) : rotL l 0 = l := by unfold rotL; simp
theorem fstK_len (l : List Int) (k : Nat) : (fstK l k).length = l.length := by
  induction k with
  | zero => rfl
  | succ k ih => rw [fstK]; split; exact rotL_len _ _; exact ih
theorem fstK_one (l : List Int) : fstK l 1 = l := by
  rw [fstK, fstK, rotL_zero, lessL_irrefl]; simp
theorem fstK_spec (l : List Int) (k : Nat) : (fstK l k = l ∨ ∃ i, i < k ∧ fstK l k = rotL l i) ∧ ∀ i, i < k → lessL (rotL l i) (fstK l k) = false := by
  induction k with
  | zero => exact ⟨.inl rfl, fun i hi => by omega⟩
  | succ k ih =>
    rw [fstK]
    split
    · rename_i h
      refine ⟨.inr ⟨k, by omega, rfl⟩, fun i hi => ?_⟩
      by_cases e : i = k
      · subst e; exact lessL_irrefl _
      · have h2 := ih.2 i (by omega)
        cases h3 : lessL (rotL l i) (rotL l k) with
        | false => rfl
        | true =>
          have := lessL_trans _ _ _ (by rw [rotL_len, rotL_len]) (by rw [rotL_len, fstK_len]) h3 h
          rw [this] at h2; cases h2
    · rename_i h
      refine ⟨?_, fun i hi => ?_⟩
      · rcases ih.1 with e | ⟨i, hi, e⟩
        · exact .inl e
        · exact .inr ⟨i, by omega, e⟩
      · by_cases e : i = k
        · subst e; simpa using h
        · exact ih.2 i (by omega)
theorem rotL_get (l : List Int) (i j : Nat) (hi : i ≤ l.length) (hj : j < l.length) : (rotL l i)[j]? = l[(i + j) % l.length]? := by
  unfold rotL
  by_cases h : i + j < l.length
  · rw [List.getElem?_append_left (by rw [List.length_drop]; omega), List.getElem?_drop, Nat.mod_eq_of_lt h]
  · rw [List.getElem?_append_right (by rw [List.length_drop]; omega), List.length_drop, List.getElem?_take_of_lt (by omega)]
    congr 1
    rw [Nat.mod_eq_sub_mod (by omega), Nat.mod_eq_of_lt (by omega)]
    omega
theorem rotL_rotL (l : List Int) (i j : Nat) (hi : i ≤ l.length) (hj : j ≤ l.length) (hpos : 0 < l.length) : rotL (rotL l i) j = rotL l ((i + j) % l.length) := by
  apply List.ext_getElem?
  intro k
  by_cases hk : k < l.length
  · rw [rotL_get (rotL l i) j k (by rw [rotL_len]; exact hj) (by rw [rotL_len]; exact hk), rotL_len, rotL_get l i _ hi (Nat.mod_lt _ hpos), rotL_get l _ k (Nat.le_of_lt (Nat.mod_lt _ hpos)) hk]
    congr 1
    rw [Nat.add_mod_mod, Nat.mod_add_mod]
    congr 1
    omega
  · rw [List.getElem?_eq_none (by rw [rotL_len, rotL_len]; omega), List.getElem?_eq_none (by rw [rotL_len]; omega)]
/-- The turned forms of a turned form are the turned forms. -/
theorem fstK_rot (l : List Int) (b : Nat) (hb : b < l.length) : fstK (rotL l b) l.length = fstK l l.length := by
  have hpos : 0 < l.length := by omega
  obtain ⟨a1, a2⟩ := fstK_spec l l.length
  obtain ⟨b1, b2⟩ := fstK_spec (rotL l b) l.length
  have inL : ∃ i, i < l.length ∧ fstK l l.length = rotL l i := by
    rcases a1 with e | h
    · exact ⟨0, hpos, by rw [e, rotL_zero]⟩
    · exact h
  have inR : ∃ i, i < l.length ∧ fstK (rotL l b) l.length = rotL l i := by
    rcases b1 with e | ⟨i, hi, e⟩
    · exact ⟨b, hb, e⟩
    · exact ⟨(b + i) % l.length, Nat.mod_lt _ hpos, by rw [e, rotL_rotL l b i (by omega) (by omega) hpos]⟩
  refine lessL_total _ _ (by rw [fstK_len, fstK_len, rotL_len]) ?_ ?_
  · obtain ⟨i, hi, e⟩ := inR
    rw [e]; exact a2 i hi
  · obtain ⟨i, hi, e⟩ := inL
    rw [e]
    have h := b2 ((i + (l.length - b)) % l.length) (Nat.mod_lt _ hpos)
    rw [rotL_rotL l b _ (by omega) (Nat.le_of_lt (Nat.mod_lt _ hpos)) hpos, Nat.add_mod_mod] at h
    rw [show b + (i + (l.length - b)) = i + l.length by omega, Nat.add_mod_right, Nat.mod_eq_of_lt hi] at h
    exact h
end Go.Proofs.Ytkboeldafppicaa
