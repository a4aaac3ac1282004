/- A closed day more, a closed day less: plain facts. -/
import Derived.Test.YtilolaednbcaoaaRefM
import Derived.Test.YtilolaednbcaoaaValidM
set_option linter.unusedVariables false
namespace Go.Proofs.Ytilolaednbcaoaa

/-- A list with one number more at a place. -/
def insAt (cs : List Int) (i : Nat) (d : Int) : List Int := cs.take i ++ d :: cs.drop i
theorem insAt_len (cs : List Int) (i : Nat) (d : Int) (h : i ≤ cs.length) : (insAt cs i d).length = cs.length + 1 := by
  simp [insAt]; omega
theorem insAt_at (cs : List Int) (i j : Nat) (d : Int) (h : i ≤ cs.length) : (insAt cs i d)[j]? = if j < i then cs[j]? else if j = i then some d else cs[j - 1]? := by
  rw [insAt, List.getElem?_append]
  have hl : (cs.take i).length = i := by simp; omega
  rw [hl]
  split
  · rw [List.getElem?_take_of_lt (by omega)]
  · rename_i h1
    split
    · rename_i h2; subst h2; simp
    · rename_i h2
      obtain ⟨q, rfl⟩ : ∃ q, j = i + 1 + q := ⟨j - (i + 1), by omega⟩
      rw [show i + 1 + q - i = q + 1 by omega, List.getElem?_cons_succ, List.getElem?_drop]
      congr 1
      omega
theorem sorted_iff (lo e : Int) (xs : List Int) : isSetFrom lo e xs = true ↔ xs.Pairwise (· < ·) ∧ ∀ x ∈ xs, lo ≤ x ∧ x < e := by
  induction xs generalizing lo with
  | nil => simp [isSetFrom]
  | cons x t ih =>
    rw [isSetFrom]
    split
    · rename_i h
      simp only [Bool.false_eq_true, false_iff, not_and]
      intro _ hh
      have := hh x (by simp)
      omega
    · rename_i h
      rw [ih, List.pairwise_cons]
      constructor
      · rintro ⟨h1, h2⟩
        refine ⟨⟨fun y hy => by have := h2 y hy; omega, h1⟩, fun y hy => ?_⟩
        rcases List.mem_cons.1 hy with rfl | hy
        · omega
        · have := h2 y hy; omega
      · rintro ⟨⟨h1, h2⟩, h3⟩
        exact ⟨h2, fun y hy => by have := h1 y hy; have := h3 y (by simp [hy]); omega⟩
/-- Two ascending lists of the same numbers are one. -/
theorem sorted_ext : ∀ (xs ys : List Int), xs.Pairwise (· < ·) → ys.Pairwise (· < ·) → (∀ x, x ∈ xs ↔ x ∈ ys) → xs = ys
  | [], [], _, _, _ => rfl
  | [], y :: t, _, _, h => absurd ((h y).2 (by simp)) (by simp)
  | x :: t, [], _, _, h => absurd ((h x).1 (by simp)) (by simp)
  | x :: s, y :: t, hx, hy, h => by
    rw [List.pairwise_cons] at hx hy
    have e : x = y := by
      rcases List.mem_cons.1 ((h x).1 (by simp)) with e | hm
      · exact e
      · rcases List.mem_cons.1 ((h y).2 (by simp)) with e | hm2
        · exact e.symm
        · have := hy.1 x hm; have := hx.1 y hm2; omega
    subst e
    congr 1
    refine sorted_ext s t hx.2 hy.2 fun z => ?_
    constructor
    · intro hz
      rcases List.mem_cons.1 ((h z).1 (by simp [hz])) with e | hm
      · subst e; have := hx.1 z hz; omega
      · exact hm
    · intro hz
      rcases List.mem_cons.1 ((h z).2 (by simp [hz])) with e | hm
      · subst e; have := hy.1 z hz; omega
      · exact hm
theorem insAt_mem (cs : List Int) (i : Nat) (d x : Int) : x ∈ insAt cs i d ↔ x = d ∨ x ∈ cs := by
  rw [insAt, List.mem_append, List.mem_cons]
  constructor
  · rintro (h | h | h)
    · exact .inr (List.mem_of_mem_take h)
    · exact .inl h
    · exact .inr (List.mem_of_mem_drop h)
  · rintro (h | h)
    · exact .inr (.inl h)
    · rw [← List.take_append_drop i cs, List.mem_append] at h
      rcases h with h | h
      · exact .inl h
      · exact .inr (.inr h)
theorem insAt_sorted (cs : List Int) (i : Nat) (d : Int) (hs : cs.Pairwise (· < ·)) (hi : i ≤ cs.length) (h1 : ∀ k, k < i → cs[k]?.getD 0 < d) (h2 : ∀ k, i ≤ k → k < cs.length → d ≤ cs[k]?.getD 0) (hd : d ∉ cs) : (insAt cs i d).Pairwise (· < ·) := by
  rw [insAt, List.pairwise_append, List.pairwise_cons]
  have hs' := hs
  rw [← List.take_append_drop i cs, List.pairwise_append] at hs'
  have hlt : ∀ x ∈ cs.take i, x < d := by
    intro x hx
    obtain ⟨k, hk, rfl⟩ := List.mem_iff_getElem.1 hx
    have hk2 : k < i := by have := hk; simp at this; omega
    have := h1 k hk2
    rw [List.getElem?_eq_getElem (by omega), Option.getD_some] at this
    simpa using this
  have hgt : ∀ x ∈ cs.drop i, d < x := by
    intro x hx
    obtain ⟨k, hk, rfl⟩ := List.mem_iff_getElem.1 hx
    have hk2 : i + k < cs.length := by have := hk; simp at this; omega
    have := h2 (i + k) (by omega) hk2
    rw [List.getElem?_eq_getElem hk2, Option.getD_some] at this
    have hne : cs[i + k] ≠ d := fun e => hd (e ▸ List.getElem_mem hk2)
    simp only [List.getElem_drop]
    omega
  refine ⟨hs'.1, ⟨hgt, hs'.2.1⟩, fun x hx y hy => ?_⟩
  rcases List.mem_cons.1 hy with rfl | hy
  · exact hlt x hx
  · exact hs'.2.2 x hx y hy
/-- The closed days with one more: those below k, as the document finds them. -/
def withTo (cs : List Int) (d : Int) : Nat → List Int
  | 0 => []
  | k + 1 => if (k : Int) = d ∨ (k : Int) ∈ cs then withTo cs d k ++ [(k : Int)] else withTo cs d k
theorem withTo_mem (cs : List Int) (d : Int) (k : Nat) (x : Int) : x ∈ withTo cs d k ↔ (x = d ∨ x ∈ cs) ∧ 0 ≤ x ∧ x < (k : Int) := by
  induction k with
  | zero => simp [withTo]
  | succ k ih =>
    rw [withTo]
    split
    · rename_i h
      rw [List.mem_append, ih, List.mem_singleton]
      constructor
      · rintro (⟨h1, h2, h3⟩ | rfl)
        · exact ⟨h1, h2, by omega⟩
        · exact ⟨h, by omega, by omega⟩
      · rintro ⟨h1, h2, h3⟩
        by_cases e : x = k
        · exact .inr e
        · exact .inl ⟨h1, h2, by omega⟩
    · rename_i h
      rw [ih]
      constructor
      · rintro ⟨h1, h2, h3⟩; exact ⟨h1, h2, by omega⟩
      · rintro ⟨h1, h2, h3⟩
        refine ⟨h1, h2, ?_⟩
        by_cases e : x = k
        · subst e; exact absurd h1 h
        · omega
theorem withTo_sorted (cs : List Int) (d : Int) (k : Nat) : (withTo cs d k).Pairwise (· < ·) := by
  induction k with
  | zero => simp [withTo]
  | succ k ih =>
    rw [withTo]
    split
    · rw [List.pairwise_append]
      refine ⟨ih, by simp, fun a ha b hb => ?_⟩
      have := ((withTo_mem cs d k a).1 ha).2.2
      simp at hb
      omega
    · exact ih
theorem withTo_len (cs : List Int) (d : Int) (k : Nat) : (withTo cs d k).length ≤ k := by
  induction k with
  | zero => simp [withTo]
  | succ k ih =>
    rw [withTo]
    split
    · simp; omega
    · omega
/-- What Close answers. -/
def closeL (L : Int) (rs cs : List Int) (d : Int) : (Int × List Int × List Int) × Int :=
  if checkD L rs cs d ≠ 0 then ((0, [], []), checkD L rs cs d) else if d ∈ cs then ((0, [], []), 12) else if cs.length = 60 then ((0, [], []), 4) else ((L, rs, withTo cs d L.toNat), 0)
def lessDay (cs : List Int) (d : Int) : List Int := cs.filter (fun x => x != d)
/-- What Reopen answers. -/
def reopenL (L : Int) (rs cs : List Int) (d : Int) : (Int × List Int × List Int) × Int :=
  if checkD L rs cs d ≠ 0 then ((0, [], []), checkD L rs cs d) else if d ∈ cs then ((L, rs, lessDay cs d), 0) else ((0, [], []), 12)
theorem checkD_ok {L : Int} {rs cs : List Int} {d : Int} (h : checkD L rs cs d = 0) : validT L rs cs = 0 ∧ 0 ≤ d ∧ d < L := by
  unfold checkD at h
  split at h
  · rename_i h1; exact absurd h h1
  · rename_i h1
    split at h
    · simp at h
    · exact ⟨by simpa using h1, by omega, by omega⟩
theorem insAt_with {L : Int} {rs cs : List Int} {d : Int} (h : checkD L rs cs d = 0) (hd : d ∉ cs) (i : Nat) (hi : i ≤ cs.length) (h1 : ∀ k, k < i → cs[k]?.getD 0 < d) (h2 : ∀ k, i ≤ k → k < cs.length → d ≤ cs[k]?.getD 0) : insAt cs i d = withTo cs d L.toNat := by
  obtain ⟨hv, hd0, hd1⟩ := checkD_ok h
  obtain ⟨v1, v2, v3, v4, v5, v6⟩ := validT_ok hv
  obtain ⟨s1, s2⟩ := (sorted_iff 0 L cs).1 v6
  refine sorted_ext _ _ (insAt_sorted cs i d s1 hi h1 h2 hd) (withTo_sorted _ _ _) fun x => ?_
  rw [insAt_mem, withTo_mem]
  constructor
  · intro hx
    refine ⟨hx, ?_⟩
    rcases hx with rfl | hx
    · omega
    · have := s2 x hx; omega
  · exact fun hx => hx.1
/-- A day that is closed and opened again. -/
theorem less_with {L : Int} {rs cs : List Int} {d : Int} (h : checkD L rs cs d = 0) (hd : d ∉ cs) : lessDay (withTo cs d L.toNat) d = cs := by
  obtain ⟨hv, hd0, hd1⟩ := checkD_ok h
  obtain ⟨v1, v2, v3, v4, v5, v6⟩ := validT_ok hv
  obtain ⟨s1, s2⟩ := (sorted_iff 0 L cs).1 v6
  refine sorted_ext _ _ ((withTo_sorted _ _ _).filter _) s1 fun x => ?_
  rw [lessDay, List.mem_filter, withTo_mem]
  simp only [bne_iff_ne, ne_eq]
  constructor
  · rintro ⟨⟨h1 | h1, _⟩, h2⟩
    · exact absurd h1 h2
    · exact h1
  · intro hx
    have := s2 x hx
    exact ⟨⟨.inr hx, by omega⟩, fun e => hd (e ▸ hx)⟩
theorem with_less {L : Int} {rs cs : List Int} {d : Int} (h : checkD L rs cs d = 0) (hd : d ∈ cs) : withTo (lessDay cs d) d L.toNat = cs := by
  obtain ⟨hv, hd0, hd1⟩ := checkD_ok h
  obtain ⟨v1, v2, v3, v4, v5, v6⟩ := validT_ok hv
  obtain ⟨s1, s2⟩ := (sorted_iff 0 L cs).1 v6
  refine sorted_ext _ _ (withTo_sorted _ _ _) s1 fun x => ?_
  rw [lessDay, withTo_mem, List.mem_filter]
  simp only [bne_iff_ne, ne_eq]
  constructor
  · rintro ⟨h1 | h1, _⟩
    · subst h1; exact hd
    · exact h1.1
  · intro hx
    have := s2 x hx
    by_cases e : x = d
    · exact ⟨.inl e, by omega⟩
    · exact ⟨.inr ⟨hx, e⟩, by omega⟩
theorem less_valid {L : Int} {rs cs : List Int} {d : Int} (h : checkD L rs cs d = 0) : checkD L rs (lessDay cs d) d = 0 := by
  obtain ⟨hv, hd0, hd1⟩ := checkD_ok h
  have hv' := hv
  obtain ⟨v1, v2, v3, v4, v5, v6⟩ := validT_ok hv
  obtain ⟨s1, s2⟩ := (sorted_iff 0 L cs).1 v6
  have h6 : isSetFrom 0 L (lessDay cs d) = true := (sorted_iff 0 L _).2 ⟨s1.filter _, fun x hx => s2 x (List.mem_filter.1 hx).1⟩
  have hl : (lessDay cs d).length ≤ cs.length := List.length_filter_le _ _
  have : validT L rs (lessDay cs d) = 0 := by
    rw [validT, if_neg (by omega), if_neg (by rw [v4]; simp [v3]), if_neg (by omega), if_neg (by simp [h6])]
  rw [checkD, if_neg (by simp [this]), if_neg (by omega)]
theorem with_valid {L : Int} {rs cs : List Int} {d : Int} (h : checkD L rs cs d = 0) (hd : d ∉ cs) (hl : cs.length ≠ 60) : checkD L rs (withTo cs d L.toNat) d = 0 ∧ (withTo cs d L.toNat).length = cs.length + 1 := by
  obtain ⟨hv, hd0, hd1⟩ := checkD_ok h
  obtain ⟨v1, v2, v3, v4, v5, v6⟩ := validT_ok hv
  obtain ⟨s1, s2⟩ := (sorted_iff 0 L cs).1 v6
  have hlen : (withTo cs d L.toNat).length = cs.length + 1 := by
    have e := less_with h hd
    have hm : d ∈ withTo cs d L.toNat := (withTo_mem _ _ _ _).2 ⟨.inl rfl, by omega, by omega⟩
    have hn := withTo_sorted cs d L.toNat
    have hnd : (withTo cs d L.toNat).Nodup := hn.imp (fun hh => by omega)
    rw [lessDay] at e
    have h2 : (withTo cs d L.toNat).erase d = cs := by rw [hnd.erase_eq_filter]; exact e
    have h3 := List.length_erase_of_mem hm
    rw [h2] at h3
    have : 0 < (withTo cs d L.toNat).length := List.length_pos_of_mem hm
    omega
  refine ⟨?_, hlen⟩
  have h6 : isSetFrom 0 L (withTo cs d L.toNat) = true := (sorted_iff 0 L _).2 ⟨withTo_sorted _ _ _, fun x hx => by have := ((withTo_mem _ _ _ _).1 hx).2; omega⟩
  have : validT L rs (withTo cs d L.toNat) = 0 := by
    rw [validT, if_neg (by omega), if_neg (by rw [v4]; simp [v3]), if_neg (by omega), if_neg (by simp [h6])]
  rw [checkD, if_neg (by simp [this]), if_neg (by omega)]
end Go.Proofs.Ytilolaednbcaoaa
