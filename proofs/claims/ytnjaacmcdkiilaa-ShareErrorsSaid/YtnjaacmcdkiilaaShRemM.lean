/- Remainders: who is before whom, ranks, and the repeated choice: plain mathematics. -/
import Derived.Test.YtnjaacmcdkiilaaShM
set_option linter.unusedVariables false
namespace Go.Proofs.Ytnjaacmcdkiilaa

/-- How many of the first m numbers have a property. -/
def cntP (p : Nat → Bool) : Nat → Nat
  | 0 => 0
  | k + 1 => cntP p k + if p k = true then 1 else 0
theorem cntP_le (p : Nat → Bool) (m : Nat) : cntP p m ≤ m := by
  induction m with
  | zero => exact Nat.le_refl _
  | succ m ih => show cntP p m + (if p m = true then 1 else 0) ≤ m + 1; split <;> omega
theorem cntP_mono {p q : Nat → Bool} {m : Nat} (h : ∀ i, i < m → p i = true → q i = true) : cntP p m ≤ cntP q m := by
  induction m with
  | zero => exact Nat.le_refl _
  | succ m ih =>
    have hi := ih (fun i a => h i (by omega))
    show cntP p m + (if p m = true then 1 else 0) ≤ cntP q m + (if q m = true then 1 else 0)
    by_cases hp : p m = true
    · rw [if_pos hp, if_pos (h m (by omega) hp)]; omega
    · rw [if_neg hp]; omega
theorem cntP_lt {p q : Nat → Bool} {m i : Nat} (h : ∀ i, i < m → p i = true → q i = true) (hi : i < m) (hp : p i = false) (hq : q i = true) : cntP p m < cntP q m := by
  induction m with
  | zero => omega
  | succ m ih =>
    show cntP p m + (if p m = true then 1 else 0) < cntP q m + (if q m = true then 1 else 0)
    by_cases e : i = m
    · subst e
      have := cntP_mono (p := p) (q := q) (m := i) (fun j a => h j (by omega))
      rw [if_neg (by rw [hp]; simp), if_pos hq]; omega
    · have := ih (fun j a => h j (by omega)) (by omega)
      by_cases hp2 : p m = true
      · rw [if_pos hp2, if_pos (h m (by omega) hp2)]; omega
      · rw [if_neg hp2]; omega
theorem cntP_one {p : Nat → Bool} {m : Nat} (h : ∀ i j, i < m → j < m → p i = true → p j = true → i = j) : cntP p m ≤ 1 := by
  induction m with
  | zero => exact Nat.zero_le _
  | succ m ih =>
    show cntP p m + (if p m = true then 1 else 0) ≤ 1
    by_cases hp : p m = true
    · have : cntP p m = 0 := by
        have hz : ∀ k, k ≤ m → cntP p k = 0 := by
          intro k
          induction k with
          | zero => intro _; rfl
          | succ k ihk =>
            intro hk
            show cntP p k + (if p k = true then 1 else 0) = 0
            rw [ihk (by omega), if_neg (fun e => by have := h k m (by omega) (by omega) e hp; omega)]
        exact hz m (Nat.le_refl _)
      rw [this, if_pos hp]; exact Nat.le_refl _
    · rw [if_neg hp]; exact ih (fun i j a b => h i j (by omega) (by omega))
theorem cntP_pos {p : Nat → Bool} {m : Nat} (h : 0 < cntP p m) : ∃ i, i < m ∧ p i = true := by
  induction m with
  | zero => exact absurd h (by show ¬ 0 < 0; omega)
  | succ m ih =>
    by_cases hp : p m = true
    · exact ⟨m, by omega, hp⟩
    · have e : cntP p (m + 1) = cntP p m + if p m = true then 1 else 0 := rfl
      rw [e, if_neg hp] at h
      obtain ⟨i, a, b⟩ := ih (by omega)
      exact ⟨i, by omega, b⟩
theorem cntP_add (p q : Nat → Bool) (m : Nat) (h : ∀ i, i < m → ¬ (p i = true ∧ q i = true)) : cntP (fun i => p i || q i) m = cntP p m + cntP q m := by
  induction m with
  | zero => rfl
  | succ m ih =>
    have hi := ih (fun i a => h i (by omega))
    show cntP (fun i => p i || q i) m + (if (p m || q m) = true then 1 else 0) = (cntP p m + if p m = true then 1 else 0) + (cntP q m + if q m = true then 1 else 0)
    rw [hi]
    have := h m (by omega)
    cases hp : p m <;> cases hq : q m <;> simp_all <;> omega
theorem cntP_all {p : Nat → Bool} {m : Nat} (h : ∀ i, i < m → p i = true) : cntP p m = m := by
  induction m with
  | zero => rfl
  | succ m ih =>
    show cntP p m + (if p m = true then 1 else 0) = m + 1
    rw [ih (fun i a => h i (by omega)), if_pos (h m (by omega))]
theorem cntP_none {p : Nat → Bool} {m : Nat} (h : ∀ i, i < m → p i = false) : cntP p m = 0 := by
  induction m with
  | zero => rfl
  | succ m ih =>
    show cntP p m + (if p m = true then 1 else 0) = 0
    rw [ih (fun i a => h i (by omega)), if_neg (by rw [h m (by omega)]; simp)]

/-- i stands before j: it lacks more, or as much and has the smaller number. -/
def bfr (r : Nat → Int) (i j : Nat) : Bool := decide (r j < r i) || (decide (r i = r j) && decide (i < j))
theorem bfr_iff {r : Nat → Int} {i j : Nat} : bfr r i j = true ↔ r j < r i ∨ (r i = r j ∧ i < j) := by simp [bfr]
theorem bfr_irrefl (r : Nat → Int) (i : Nat) : bfr r i i = false := by
  cases h : bfr r i i with
  | false => rfl
  | true => rw [bfr_iff] at h; omega
theorem bfr_trans {r : Nat → Int} {i j k : Nat} (h1 : bfr r i j = true) (h2 : bfr r j k = true) : bfr r i k = true := by
  rw [bfr_iff] at *; omega
theorem bfr_total {r : Nat → Int} {i j : Nat} (h : i ≠ j) : bfr r i j = true ∨ bfr r j i = true := by
  rw [bfr_iff, bfr_iff]; omega
theorem bfr_anti {r : Nat → Int} {i j : Nat} (h : bfr r i j = true) : bfr r j i = false := by
  cases g : bfr r j i with
  | false => rfl
  | true => rw [bfr_iff] at h g; omega
/-- How many stand before i. -/
def rnk (r : Nat → Int) (m i : Nat) : Nat := cntP (fun j => bfr r j i) m
theorem rnk_lt_of {r : Nat → Int} {m i j : Nat} (hi : i < m) (h : bfr r i j = true) : rnk r m i < rnk r m j :=
  cntP_lt (fun l _ hl => bfr_trans hl h) hi (bfr_irrefl r i) h
theorem rnk_inj {r : Nat → Int} {m i j : Nat} (hi : i < m) (hj : j < m) (h : rnk r m i = rnk r m j) : i = j := by
  by_cases e : i = j
  · exact e
  · rcases bfr_total (r := r) e with g | g
    · have := rnk_lt_of (m := m) hi g; omega
    · have := rnk_lt_of (m := m) hj g; omega
theorem rnk_lt {r : Nat → Int} {m i : Nat} (hi : i < m) : rnk r m i < m := by
  have h1 : rnk r m i < cntP (fun _ => true) m := cntP_lt (fun _ _ _ => rfl) hi (bfr_irrefl r i) rfl
  rw [cntP_all (fun _ _ => rfl)] at h1
  exact h1
/-- t of them have a rank below t. -/
theorem rnk_count (r : Nat → Int) (m t : Nat) (ht : t ≤ m) : cntP (fun i => decide (rnk r m i < t)) m = t := by
  have step : ∀ t, cntP (fun i => decide (rnk r m i < t + 1)) m ≤ cntP (fun i => decide (rnk r m i < t)) m + 1 := by
    intro t
    have e : cntP (fun i => decide (rnk r m i < t + 1)) m = cntP (fun i => decide (rnk r m i < t) || decide (rnk r m i = t)) m := by
      congr 1
      funext i
      rw [Bool.eq_iff_iff]
      simp
      omega
    rw [e, cntP_add _ _ _ (fun i _ h => by simp at h; omega)]
    have := cntP_one (p := fun i => decide (rnk r m i = t)) (m := m) (fun i j hi hj a b => rnk_inj (r := r) (m := m) hi hj (by simp at a b; omega))
    omega
  have h0 : cntP (fun i => decide (rnk r m i < 0)) m = 0 := cntP_none (fun i _ => by simp)
  have hm : cntP (fun i => decide (rnk r m i < m)) m = m := cntP_all (fun i hi => by simpa using rnk_lt hi)
  have up : ∀ t, cntP (fun i => decide (rnk r m i < t)) m ≤ t := by
    intro t
    induction t with
    | zero => rw [h0]; exact Nat.le_refl _
    | succ t ih => have := step t; omega
  have down : ∀ d, d ≤ m → m - d ≤ cntP (fun i => decide (rnk r m i < m - d)) m := by
    intro d
    induction d with
    | zero => intro _; rw [Nat.sub_zero, hm]; exact Nat.le_refl _
    | succ d ih =>
      intro hd
      have h1 := ih (by omega)
      have h2 := step (m - (d + 1))
      rw [show m - (d + 1) + 1 = m - d by omega] at h2
      omega
  have h1 := down (m - t) (by omega)
  rw [show m - (m - t) = t by omega] at h1
  have h2 := up t
  omega
theorem rnk_surj (r : Nat → Int) (m t : Nat) (ht : t < m) : ∃ i, i < m ∧ rnk r m i = t := by
  have h1 := rnk_count r m t (by omega)
  have h2 := rnk_count r m (t + 1) (by omega)
  have e : cntP (fun i => decide (rnk r m i < t + 1)) m = cntP (fun i => decide (rnk r m i < t) || decide (rnk r m i = t)) m := by
    congr 1
    funext i
    rw [Bool.eq_iff_iff]
    simp
    omega
  rw [e, cntP_add _ _ _ (fun i _ h => by simp at h; omega), h1] at h2
  obtain ⟨i, hi, hp⟩ := cntP_pos (p := fun i => decide (rnk r m i = t)) (m := m) (by omega)
  exact ⟨i, hi, by simpa using hp⟩

/-- The first one of the largest of g 0, .., g k. -/
def fmx (g : Nat → Int) : Nat → Nat
  | 0 => 0
  | k + 1 => if g (fmx g k) < g (k + 1) then k + 1 else fmx g k
theorem fmx_spec (g : Nat → Int) (k : Nat) : fmx g k ≤ k ∧ ∀ i, i ≤ k → g i ≤ g (fmx g k) ∧ (i < fmx g k → g i < g (fmx g k)) := by
  induction k with
  | zero => exact ⟨Nat.le_refl _, fun i hi => by obtain rfl : i = 0 := by omega
                                                 exact ⟨Int.le_refl _, fun h => absurd h (by show ¬ 0 < 0; omega)⟩⟩
  | succ k ih =>
    obtain ⟨h1, h2⟩ := ih
    have e : fmx g (k + 1) = if g (fmx g k) < g (k + 1) then k + 1 else fmx g k := rfl
    rw [e]
    by_cases h : g (fmx g k) < g (k + 1)
    · rw [if_pos h]
      refine ⟨Nat.le_refl _, fun i hi => ?_⟩
      by_cases e2 : i = k + 1
      · subst e2; exact ⟨Int.le_refl _, fun h => by omega⟩
      · have := (h2 i (by omega)).1
        exact ⟨by omega, fun _ => by omega⟩
    · rw [if_neg h]
      refine ⟨by omega, fun i hi => ?_⟩
      by_cases e2 : i = k + 1
      · subst e2; exact ⟨by omega, fun h => by omega⟩
      · exact h2 i (by omega)
/-- What is left of the rests when t of them were chosen. -/
def restAt (r : Nat → Int) (m t i : Nat) : Int := if rnk r m i < t then -1 else r i
/-- The repeated choice takes the one of rank t. -/
theorem choice (r : Nat → Int) (m t : Nat) (ht : t < m) (hr : ∀ i, i < m → 0 ≤ r i) : rnk r m (fmx (restAt r m t) (m - 1)) = t ∧ fmx (restAt r m t) (m - 1) < m := by
  obtain ⟨h1, h2⟩ := fmx_spec (restAt r m t) (m - 1)
  obtain ⟨i, hi, he⟩ := rnk_surj r m t ht
  generalize fmx (restAt r m t) (m - 1) = b at *
  have hb : b < m := by omega
  refine ⟨?_, hb⟩
  obtain ⟨h3, h4⟩ := h2 i (by omega)
  have gi : restAt r m t i = r i := by unfold restAt; rw [if_neg (by omega)]
  rw [gi] at h3 h4
  by_cases e : rnk r m b < t
  · have : restAt r m t b = -1 := by unfold restAt; rw [if_pos e]
    have := hr i hi
    omega
  · have gb : restAt r m t b = r b := by unfold restAt; rw [if_neg e]
    rw [gb] at h3 h4
    by_cases e2 : b = i
    · rw [e2]; exact he
    · rcases bfr_total (r := r) (show i ≠ b from fun h => e2 h.symm) with g | g
      · rw [bfr_iff] at g
        rcases g with g | ⟨g, g2⟩
        · omega
        · have := h4 g2; omega
      · have := rnk_lt_of (m := m) hb g; omega
/-- The meals when those of a rank below t have got one more. -/
def plusTo (f r : Nat → Int) (m t : Nat) : List Int := (List.range m).map (fun i => f i + if rnk r m i < t then 1 else 0)
theorem plusTo_len (f r : Nat → Int) (m t : Nat) : (plusTo f r m t).length = m := by simp [plusTo]
theorem plusTo_at (f r : Nat → Int) (m t i : Nat) (h : i < m) : at0 (plusTo f r m t) i = f i + if rnk r m i < t then 1 else 0 := by
  unfold at0 plusTo
  rw [List.getElem?_map, List.getElem?_range h]
  rfl
theorem at0_ext {l s : List Int} (h : l.length = s.length) (e : ∀ i, i < l.length → at0 l i = at0 s i) : l = s := by
  apply List.ext_getElem?
  intro i
  rcases Nat.lt_or_ge i l.length with h1 | h1
  · have := e i h1
    unfold at0 at this
    rw [List.getElem?_eq_getElem h1, List.getElem?_eq_getElem (by omega)] at this ⊢
    simpa using this
  · rw [List.getElem?_eq_none h1, List.getElem?_eq_none (by omega)]
theorem at0_set2 (l : List Int) (i j : Nat) (v : Int) (h : i < l.length) : at0 (l.set i v) j = if j = i then v else at0 l j := by
  unfold at0
  by_cases e : j = i
  · subst e; rw [if_pos rfl, List.getElem?_set_self h]; rfl
  · rw [if_neg e, List.getElem?_set_ne (fun x => e x.symm)]
theorem plusTo_zero (f r : Nat → Int) (m : Nat) : plusTo f r m 0 = (List.range m).map f := by
  unfold plusTo
  congr 1
  funext i
  rw [if_neg (by omega)]; omega
theorem plusTo_step (f r : Nat → Int) (m t b : Nat) (hb : b < m) (h : rnk r m b = t) : (plusTo f r m t).set b (at0 (plusTo f r m t) b + 1) = plusTo f r m (t + 1) := by
  apply at0_ext
  · simp [plusTo]
  · intro i hi
    have hi' : i < m := by simpa [plusTo] using hi
    rw [at0_set2 _ _ _ _ (by rw [plusTo_len]; exact hb), plusTo_at f r m (t + 1) i hi']
    by_cases e : i = b
    · subst e
      rw [if_pos rfl, plusTo_at f r m t i hb, h, if_neg (by omega), if_pos (by omega)]; omega
    · rw [if_neg e, plusTo_at f r m t i hi']
      have hne : rnk r m i ≠ t := fun g => e (rnk_inj hi' hb (g.trans h.symm))
      by_cases g : rnk r m i < t
      · rw [if_pos g, if_pos (by omega)]
      · rw [if_neg g, if_neg (by omega)]
/-- The rests as a list. -/
def rests (r : Nat → Int) (m t : Nat) : List Int := (List.range m).map (restAt r m t)
theorem rests_len (r : Nat → Int) (m t : Nat) : (rests r m t).length = m := by simp [rests]
theorem rests_at (r : Nat → Int) (m t i : Nat) (h : i < m) : at0 (rests r m t) i = restAt r m t i := by
  unfold at0 rests
  rw [List.getElem?_map, List.getElem?_range h]
  rfl
theorem rests_step (r : Nat → Int) (m t b : Nat) (hb : b < m) (h : rnk r m b = t) : (rests r m t).set b (-1) = rests r m (t + 1) := by
  apply at0_ext
  · simp [rests]
  · intro i hi
    have hi' : i < m := by simpa [rests] using hi
    rw [at0_set2 _ _ _ _ (by rw [rests_len]; exact hb), rests_at r m (t + 1) i hi']
    unfold restAt
    by_cases e : i = b
    · subst e; rw [if_pos rfl, h, if_pos (by omega)]
    · rw [if_neg e, rests_at r m t i hi']
      unfold restAt
      have hne : rnk r m i ≠ t := fun g => e (rnk_inj hi' hb (g.trans h.symm))
      by_cases g : rnk r m i < t
      · rw [if_pos g, if_pos (by omega)]
      · rw [if_neg g, if_neg (by omega)]
theorem rests_zero (r : Nat → Int) (m : Nat) : rests r m 0 = (List.range m).map r := by
  have e : restAt r m 0 = r := by
    funext i
    unfold restAt
    rw [if_neg (by omega)]
  unfold rests
  rw [e]

/-- Pairs of a number and what it lacks, sorted: the p-th has the rank p. -/
theorem countP_front {α : Type} (f : α → Bool) (L : List α) (p : Nat) (hp : p ≤ L.length) (h1 : ∀ q x, L[q]? = some x → q < p → f x = true) (h2 : ∀ q x, L[q]? = some x → p ≤ q → f x = false) : L.countP f = p := by
  induction L generalizing p with
  | nil => simp at hp; subst hp; rfl
  | cons y t ih =>
    rw [List.countP_cons]
    cases p with
    | zero =>
      rw [if_neg (by rw [h2 0 y rfl (Nat.le_refl _)]; simp), ih 0 (Nat.zero_le _) (fun q x _ h => by omega) (fun q x hq _ => h2 (q + 1) x hq (Nat.zero_le _))]
    | succ p =>
      rw [if_pos (h1 0 y rfl (by omega)), ih p (by simpa using hp) (fun q x hq h => h1 (q + 1) x hq (by omega)) (fun q x hq h => h2 (q + 1) x hq (by omega))]
theorem cntP_list (r : Nat → Int) (f : Nat × Int → Bool) (m : Nat) : cntP (fun j => f (j, r j)) m = ((List.range m).map (fun j => (j, r j))).countP f := by
  induction m with
  | zero => rfl
  | succ m ih =>
    rw [List.range_succ, List.map_append, List.countP_append, ← ih]
    show cntP (fun j => f (j, r j)) m + (if f (m, r m) = true then 1 else 0) = _
    simp [List.countP_cons]
/-- One pair stands before another. -/
def pbf (x y : Nat × Int) : Bool := decide (y.2 < x.2) || (decide (x.2 = y.2) && decide (x.1 < y.1))
theorem sorted_rnk (r : Nat → Int) (m : Nat) (L : List (Nat × Int)) (hp : L.Perm ((List.range m).map (fun j => (j, r j)))) (hs : ∀ (i j : Nat) (x y : Nat × Int), i < j → L[i]? = some x → L[j]? = some y → pbf y x = false) (p : Nat) (x : Nat × Int) (hx : L[p]? = some x) : x.2 = r x.1 ∧ x.1 < m ∧ rnk r m x.1 = p := by
  have hlen : L.length = m := by rw [hp.length_eq]; simp
  have hpl : p < L.length := by
    rcases Nat.lt_or_ge p L.length with h | h
    · exact h
    · rw [List.getElem?_eq_none h] at hx; cases hx
  have hmem : ∀ y, y ∈ L → y.2 = r y.1 ∧ y.1 < m := by
    intro y hy
    have := hp.mem_iff.1 hy
    rw [List.mem_map] at this
    obtain ⟨j, hj, rfl⟩ := this
    exact ⟨rfl, List.mem_range.1 hj⟩
  have hxm := List.mem_of_getElem? hx
  obtain ⟨hx1, hx2⟩ := hmem x hxm
  refine ⟨hx1, hx2, ?_⟩
  have hnd : L.Nodup := by
    rw [hp.nodup_iff]
    exact List.pairwise_map.2 ((List.nodup_range (n := m)).imp (fun {a b} h e => h (congrArg Prod.fst e)))
  have e : rnk r m x.1 = cntP (fun j => (fun y => pbf y x) (j, r j)) m := by
    unfold rnk
    congr 1
    funext j
    unfold bfr pbf
    rw [hx1]
  rw [e, cntP_list r (fun y => pbf y x) m, ← hp.countP_eq]
  refine countP_front _ L p (by omega) (fun q y hq h => ?_) (fun q y hq h => ?_)
  · have h1 := hs q p y x h hq hx
    have hne : y.1 ≠ x.1 := by
      intro e2
      have hym := hmem y (List.mem_of_getElem? hq)
      have : y = x := by
        apply Prod.ext
        · exact e2
        · rw [hym.1, hx1, e2]
      subst this
      have := (List.getElem?_inj (by omega) hnd).1 (hq.trans hx.symm)
      omega
    unfold pbf at h1 ⊢
    simp at h1 ⊢
    omega
  · by_cases e2 : q = p
    · subst e2
      rw [hq] at hx
      cases hx
      unfold pbf; simp
    · exact hs p q x y (by omega) hx hq
end Go.Proofs.Ytnjaacmcdkiilaa
