/- Ways, tours, their lengths; exchanges of stops. Plain mathematics. -/
set_option linter.unusedVariables false
namespace Go.Proofs.Ytbffdpcogfmomaa

abbrev Tbl := List (List Int)
def tR (t : Tbl) (i : Nat) : List Int := t[i]?.getD []
def tA (t : Tbl) (i j : Int) : Int := (tR t i.toNat)[j.toNat]?.getD 0
def vAt (o : List Int) (k : Nat) : Int := o[k]?.getD 0
theorem tA_nat (t : Tbl) (i j : Nat) : tA t i j = (tR t i)[j]?.getD 0 := rfl
/-- A square table of numbers that are not large. -/
structure Sq (t : Tbl) (n : Nat) : Prop where
  len : t.length = n
  le : n ≤ 7
  rows : ∀ i, i < n → (tR t i).length = n
  bd : ∀ i j : Nat, i < n → j < n → -3000 ≤ tA t i j ∧ tA t i j ≤ 3000
  sym : ∀ i j : Nat, i < n → j < n → tA t i j = tA t j i
/-- The same of a row. -/
theorem Sq.bdI {t : Tbl} {n : Nat} (h : Sq t n) (i j : Int) (hi : 0 ≤ i ∧ i < n) (hj : 0 ≤ j ∧ j < n) : -3000 ≤ tA t i j ∧ tA t i j ≤ 3000 := by
  obtain ⟨a, rfl⟩ := Int.eq_ofNat_of_zero_le hi.1
  obtain ⟨b, rfl⟩ := Int.eq_ofNat_of_zero_le hj.1
  exact h.bd a b (by omega) (by omega)
theorem Sq.symI {t : Tbl} {n : Nat} (h : Sq t n) (i j : Int) (hi : 0 ≤ i ∧ i < n) (hj : 0 ≤ j ∧ j < n) : tA t i j = tA t j i := by
  obtain ⟨a, rfl⟩ := Int.eq_ofNat_of_zero_le hi.1
  obtain ⟨b, rfl⟩ := Int.eq_ofNat_of_zero_le hj.1
  exact h.sym a b (by omega) (by omega)
def okC (t : Tbl) (i j : Nat) : Bool := decide (0 ≤ tA t i j ∧ tA t i j ≤ 1000) && (tA t i j == tA t j i) && !(decide (i = j) && !(tA t i j == 0))
def rowsB (t : Tbl) : Bool := (List.range t.length).all fun i => decide ((tR t i).length = t.length)
def cellsB (t : Tbl) : Bool := (List.range t.length).all fun i => (List.range t.length).all fun j => okC t i j
/-- The error of ways. -/
def vaV (t : Tbl) : Int := if 1 ≤ t.length ∧ t.length ≤ 7 then (if rowsB t then (if cellsB t then 0 else 1) else 1) else 4
theorem rowsB_iff (t : Tbl) : rowsB t = true ↔ ∀ i, i < t.length → (tR t i).length = t.length := by simp [rowsB, List.all_eq_true]
theorem cellsB_iff (t : Tbl) : cellsB t = true ↔ ∀ i j, i < t.length → j < t.length → okC t i j = true := by
  simp only [cellsB, List.all_eq_true, List.mem_range]
  exact ⟨fun h i j hi hj => h i hi j hj, fun h i hi j hj => h i j hi hj⟩
theorem rowsB_not {t : Tbl} {i : Nat} (hi : i < t.length) (h : (tR t i).length ≠ t.length) : rowsB t = false := by
  rw [Bool.eq_false_iff]; intro e; exact h ((rowsB_iff t).1 e i hi)
theorem cellsB_not {t : Tbl} {i j : Nat} (hi : i < t.length) (hj : j < t.length) (h : okC t i j = false) : cellsB t = false := by
  rw [Bool.eq_false_iff]; intro e; rw [(cellsB_iff t).1 e i j hi hj] at h; cases h
theorem vaV_large {t : Tbl} (h : ¬ (1 ≤ t.length ∧ t.length ≤ 7)) : vaV t = 4 := if_neg h
theorem vaV_rows {t : Tbl} (h : 1 ≤ t.length ∧ t.length ≤ 7) (h2 : rowsB t = false) : vaV t = 1 := by simp [vaV, h, h2]
theorem vaV_cells {t : Tbl} (h : 1 ≤ t.length ∧ t.length ≤ 7) (h3 : cellsB t = false) : vaV t = 1 := by
  unfold vaV; rw [if_pos h]; split <;> simp [h3]
theorem vaV_ok {t : Tbl} (h : 1 ≤ t.length ∧ t.length ≤ 7) (h2 : rowsB t = true) (h3 : cellsB t = true) : vaV t = 0 := by simp [vaV, h, h2, h3]
theorem vaV_cases (t : Tbl) : vaV t = 0 ∨ vaV t = 1 ∨ vaV t = 4 := by unfold vaV; split <;> (try split) <;> (try split) <;> simp
/-- Valid ways. -/
structure Ways (t : Tbl) : Prop where
  pos : 1 ≤ t.length
  len : t.length ≤ 7
  rows : ∀ i, i < t.length → (tR t i).length = t.length
  bd : ∀ i j : Nat, i < t.length → j < t.length → 0 ≤ tA t i j ∧ tA t i j ≤ 1000
  sym : ∀ i j : Nat, i < t.length → j < t.length → tA t i j = tA t j i
  diag : ∀ i : Nat, i < t.length → tA t i i = 0
theorem ways_iff (t : Tbl) : vaV t = 0 ↔ Ways t := by
  constructor
  · intro h
    unfold vaV at h
    split at h
    · rename_i h1
      split at h
      · rename_i h2
        split at h
        · rename_i h3
          rw [rowsB_iff] at h2
          rw [cellsB_iff] at h3
          refine ⟨h1.1, h1.2, h2, fun i j hi hj => ?_, fun i j hi hj => ?_, fun i hi => ?_⟩
          · have := h3 i j hi hj; simp [okC] at this; exact this.1.1
          · have := h3 i j hi hj; simp [okC] at this; exact this.1.2
          · have := h3 i i hi hi; simp [okC] at this; exact this.2
        · cases h
      · cases h
    · cases h
  · intro h
    refine vaV_ok ⟨h.pos, h.len⟩ ((rowsB_iff t).2 h.rows) ((cellsB_iff t).2 fun i j hi hj => ?_)
    have h1 := h.bd i j hi hj
    have h2 := h.sym i j hi hj
    simp only [okC, Bool.and_eq_true, decide_eq_true_eq, beq_iff_eq, Bool.not_eq_true', Bool.and_eq_false_iff, decide_eq_false_iff_not, Bool.not_eq_false']
    refine ⟨⟨h1, h2⟩, ?_⟩
    by_cases e : i = j
    · subst e; exact .inr (h.diag i hi)
    · exact .inl e
theorem Ways.sq {t : Tbl} (h : Ways t) : Sq t t.length := ⟨rfl, h.len, h.rows, fun i j hi hj => by have := h.bd i j hi hj; omega, h.sym⟩
theorem Ways.bdI {t : Tbl} (h : Ways t) (i j : Int) (hi : 0 ≤ i ∧ i < t.length) (hj : 0 ≤ j ∧ j < t.length) : 0 ≤ tA t i j ∧ tA t i j ≤ 1000 := by
  obtain ⟨a, rfl⟩ := Int.eq_ofNat_of_zero_le hi.1
  obtain ⟨b, rfl⟩ := Int.eq_ofNat_of_zero_le hj.1
  exact h.bd a b (by omega) (by omega)
/-- The stops among n places. -/
def stopsL (n : Nat) : List Int := (List.range (n - 1)).map fun (i : Nat) => (i : Int) + 1
theorem stopsL_len (n : Nat) : (stopsL n).length = n - 1 := by simp [stopsL]
theorem stopsL_mem (n : Nat) (x : Int) : x ∈ stopsL n ↔ 1 ≤ x ∧ x < n := by
  simp only [stopsL, List.mem_map, List.mem_range]
  constructor
  · rintro ⟨a, h, rfl⟩; omega
  · intro h; exact ⟨x.toNat - 1, by omega, by omega⟩
theorem stopsL_at (n k : Nat) (h : k < n - 1) : (stopsL n)[k]? = some ((k : Int) + 1) := by simp [stopsL, List.getElem?_range h]
theorem stopsL_nodup (n : Nat) : (stopsL n).Nodup := by
  unfold List.Nodup
  rw [List.pairwise_iff_getElem]
  intro i j hi hj hij
  simp [stopsL]
  omega
/-- A tour of all stops. -/
def IsTour (o : List Int) (n : Nat) : Prop := o.Perm (stopsL n)
theorem IsTour.len {o : List Int} {n : Nat} (h : IsTour o n) : o.length = n - 1 := by rw [h.length_eq, stopsL_len]
theorem IsTour.mem {o : List Int} {n : Nat} (h : IsTour o n) {x : Int} (hx : x ∈ o) : 1 ≤ x ∧ x < n := (stopsL_mem n x).1 (h.mem_iff.1 hx)
theorem IsTour.nodup {o : List Int} {n : Nat} (h : IsTour o n) : o.Nodup := h.nodup_iff.2 (stopsL_nodup n)
/-- The place from which the way number k leads; the sum of the first k ways. -/
def lastP (o : List Int) (k : Nat) : Int := if k = 0 then 0 else vAt o (k - 1)
def preL (t : Tbl) (o : List Int) : Nat → Int
  | 0 => 0
  | k + 1 => preL t o k + tA t (lastP o k) (vAt o k)
def tourL (t : Tbl) (o : List Int) : Int := preL t o o.length + tA t (lastP o o.length) 0
theorem lastP_succ (o : List Int) (k : Nat) : lastP o (k + 1) = vAt o k := rfl
/-- Stops of a tour are stops. -/
def StopsOk (o : List Int) (n : Nat) : Prop := ∀ x ∈ o, 1 ≤ x ∧ x < n
theorem vAt_mem {o : List Int} {k : Nat} (h : k < o.length) : vAt o k ∈ o := by simp [vAt, h]
theorem lastP_in {o : List Int} {n k : Nat} (h : StopsOk o n) (hn : 1 ≤ n) (hk : k ≤ o.length) : 0 ≤ lastP o k ∧ lastP o k < n := by
  unfold lastP
  split
  · omega
  · have := h _ (vAt_mem (o := o) (k := k - 1) (by omega)); omega
theorem preL_bd {t : Tbl} {o : List Int} (ht : Ways t) (h : StopsOk o t.length) (k : Nat) (hk : k ≤ o.length) : 0 ≤ preL t o k ∧ preL t o k ≤ 1000 * k := by
  induction k with
  | zero => simp [preL]
  | succ k ih =>
    have h1 := ih (by omega)
    have h2 := lastP_in h ht.pos (k := k) (by omega)
    have h3 := h _ (vAt_mem (o := o) (k := k) (by omega))
    have h4 := ht.bdI _ _ h2 ⟨by omega, h3.2⟩
    simp only [preL]
    omega
theorem tourL_bd {t : Tbl} {o : List Int} (ht : Ways t) (h : StopsOk o t.length) : 0 ≤ tourL t o ∧ tourL t o ≤ 1000 * o.length + 1000 := by
  have h1 := preL_bd ht h o.length (Nat.le_refl _)
  have h2 := lastP_in h ht.pos (k := o.length) (Nat.le_refl _)
  have h3 := ht.bdI _ 0 h2 ⟨by omega, by have := ht.pos; omega⟩
  unfold tourL
  omega
theorem IsTour.stops {o : List Int} {n : Nat} (h : IsTour o n) : StopsOk o n := fun x hx => h.mem hx
/-- Exchanges. -/
def swapV (o : List Int) (i j : Nat) : List Int := (o.set i (vAt o j)).set j (vAt o i)
theorem swapV_len (o : List Int) (i j : Nat) : (swapV o i j).length = o.length := by simp [swapV]
theorem vAt_set (o : List Int) (i : Nat) (x : Int) (k : Nat) : vAt (o.set i x) k = if k = i ∧ i < o.length then x else vAt o k := by
  unfold vAt
  rw [List.getElem?_set]
  by_cases h : i = k
  · subst h
    by_cases h2 : i < o.length
    · simp [h2]
    · simp [h2]
  · simp [h, Ne.symm h]
theorem swapV_at (o : List Int) (i j k : Nat) (hi : i < o.length) (hj : j < o.length) : vAt (swapV o i j) k = if k = j then vAt o i else if k = i then vAt o j else vAt o k := by
  unfold swapV
  rw [vAt_set, vAt_set, List.length_set]
  by_cases h1 : k = j
  · simp [h1, hj]
  · by_cases h2 : k = i
    · simp [h2, hi, hj]
    · simp [h1, h2]
theorem vAt_ext {o p : List Int} (h : o.length = p.length) (hk : ∀ k, k < o.length → vAt o k = vAt p k) : o = p := by
  refine List.ext_getElem h fun k h1 h2 => ?_
  have := hk k h1
  simpa [vAt, h1, h2] using this
theorem swapV_swapV (o : List Int) (i j : Nat) (hi : i < o.length) (hj : j < o.length) : swapV (swapV o i j) i j = o := by
  refine vAt_ext (by rw [swapV_len, swapV_len]) fun k hk => ?_
  have hl := swapV_len o i j
  rw [swapV_at _ _ _ _ (by omega) (by omega), swapV_at o i j i hi hj, swapV_at o i j j hi hj, swapV_at o i j k hi hj]
  by_cases h1 : k = j
  · subst h1; simp
    intro h; rw [h]
  · by_cases h2 : k = i
    · subst h2; simp [h1]
    · simp [h1, h2]
theorem vAt_take (o : List Int) (p k : Nat) (h : k < p) : vAt (o.take p) k = vAt o k := by
  unfold vAt; rw [List.getElem?_take_of_lt h]
theorem takeV_ext {o q : List Int} {p : Nat} (h1 : p ≤ o.length) (h2 : p ≤ q.length) (hk : ∀ k, k < p → vAt o k = vAt q k) : o.take p = q.take p := by
  refine vAt_ext (by simp; omega) fun k hkl => ?_
  have : k < p := by simp at hkl; omega
  rw [vAt_take o p k this, vAt_take q p k this]; exact hk k this
theorem takeV_at {o q : List Int} {p : Nat} (h : o.take p = q.take p) (k : Nat) (hk : k < p) : vAt o k = vAt q k := by
  rw [← vAt_take o p k hk, h, vAt_take q p k hk]
theorem mem_vAt {o : List Int} {x : Int} (h : x ∈ o) : ∃ k, k < o.length ∧ vAt o k = x := by
  obtain ⟨k, hk, he⟩ := List.getElem_of_mem h
  exact ⟨k, hk, by simp [vAt, hk, he]⟩
theorem vAt_inj {o : List Int} (hn : o.Nodup) {i j : Nat} (hi : i < o.length) (hj : j < o.length) (he : vAt o i = vAt o j) : i = j := by
  have h1 : o[i] = o[j] := by simpa [vAt, hi, hj] using he
  exact (List.getElem_inj hn).1 h1
theorem swapV_count (o : List Int) (i j : Nat) (hi : i < o.length) (hj : j < o.length) (x : Int) : (swapV o i j).count x = o.count x := by
  unfold swapV
  have e1 : vAt o j = o[j] := by simp [vAt, hj]
  have e2 : vAt o i = o[i] := by simp [vAt, hi]
  rw [List.count_set (by simpa using hj), List.count_set hi, List.getElem_set, e1, e2]
  have p1 : o[i] = x → 0 < o.count x := fun e => List.count_pos_iff.2 (e ▸ List.getElem_mem hi)
  have p2 : o[j] = x → 0 < o.count x := fun e => List.count_pos_iff.2 (e ▸ List.getElem_mem hj)
  by_cases e : i = j
  · subst e
    simp only [if_true]
    by_cases hx : o[i] = x
    · have := p1 hx; simp [hx]; omega
    · simp [hx]
  · simp only [e, if_false]
    by_cases hx : o[i] = x <;> by_cases hy : o[j] = x <;> simp [hx, hy] <;> (first | (have := p1 hx; omega) | (have := p2 hy; omega))
theorem swapV_perm (o : List Int) (i j : Nat) (hi : i < o.length) (hj : j < o.length) : (swapV o i j).Perm o := List.perm_iff_count.2 fun x => swapV_count o i j hi hj x
/-- Another list of the same with the same beginning has, at the next place, one of the rest. -/
theorem nextV_of {o q : List Int} {p : Nat} (hn : o.Nodup) (hq : q.Perm o) (hp : p < o.length) (h : q.take p = o.take p) : ∃ j, p ≤ j ∧ j < o.length ∧ q.take (p + 1) = (swapV o p j).take (p + 1) := by
  have hql := hq.length_eq
  have hm : vAt q p ∈ o := hq.mem_iff.1 (vAt_mem (by omega))
  obtain ⟨j, hj, he⟩ := mem_vAt hm
  have hpj : p ≤ j := by
    rcases Nat.lt_or_ge j p with h1 | h1
    · exfalso
      have e := takeV_at h j h1
      rw [he] at e
      have := vAt_inj (hq.nodup_iff.2 hn) (by omega) (by omega) e
      omega
    · exact h1
  refine ⟨j, hpj, hj, takeV_ext (by omega) (by rw [swapV_len]; omega) fun k hk => ?_⟩
  rw [swapV_at o p j k (by omega) (by omega)]
  by_cases h1 : k = p
  · subst h1
    by_cases h2 : k = j
    · rw [if_pos h2]; subst h2; exact he.symm
    · rw [if_neg h2, if_pos rfl]; exact he.symm
  · rw [if_neg (by omega), if_neg h1]
    exact takeV_at h k (by omega)
theorem swapV_take (o : List Int) (p j : Nat) (hj : j < o.length) (hp : p ≤ j) : (swapV o p j).take p = o.take p := by
  refine takeV_ext (by rw [swapV_len]; omega) (by omega) fun k hk => ?_
  rw [swapV_at o p j k (by omega) hj, if_neg (by omega), if_neg (by omega)]
/-- What has been found is no worse than any of the orders tried. -/
def Better (s s' : Option Int) : Prop := ∀ m, s = some m → ∃ m', s' = some m' ∧ m' ≤ m
theorem Better.refl (s : Option Int) : Better s s := fun m h => ⟨m, h, Int.le_refl _⟩
theorem Better.trans {a b c : Option Int} (h : Better a b) (k : Better b c) : Better a c := fun m hm => by
  obtain ⟨m', h1, h2⟩ := h m hm
  obtain ⟨m2, h3, h4⟩ := k m' h1
  exact ⟨m2, h3, by omega⟩
def LowV (C : List Int → Int) (A : List Int → Bool) (o : List Int) (p : Nat) (s : Option Int) : Prop := ∀ q : List Int, q.Perm o → q.take p = o.take p → A q = true → ∃ m, s = some m ∧ m ≤ C q
def LowVK (C : List Int → Int) (A : List Int → Bool) (o : List Int) (p k : Nat) (s : Option Int) : Prop := ∀ j, p ≤ j → j < k → LowV C A (swapV o p j) (p + 1) s
theorem LowVK.zero (C : List Int → Int) (A : List Int → Bool) (o : List Int) (p : Nat) (s : Option Int) : LowVK C A o p p s := fun j h1 h2 => by omega
theorem LowV.le {C : List Int → Int} {A : List Int → Bool} {o : List Int} {p : Nat} {s s' : Option Int} (h : LowV C A o p s) (hm : Better s s') : LowV C A o p s' := fun q h1 h2 h3 => by
  obtain ⟨m, e, l⟩ := h q h1 h2 h3
  obtain ⟨m', e', l'⟩ := hm m e
  exact ⟨m', e', by omega⟩
theorem LowVK.more {C : List Int → Int} {A : List Int → Bool} {o : List Int} {p k : Nat} {s s' : Option Int} (h : LowVK C A o p k s) (hm : Better s s') (h2 : LowV C A (swapV o p k) (p + 1) s') : LowVK C A o p (k + 1) s' := by
  intro j h3 h4
  rcases Nat.lt_or_ge j k with h5 | h5
  · exact (h j h3 h5).le hm
  · rw [show j = k by omega]; exact h2
theorem LowVK.all {C : List Int → Int} {A : List Int → Bool} {o : List Int} {p : Nat} {s : Option Int} (ho : o.Nodup) (hp : p < o.length) (h : LowVK C A o p o.length s) : LowV C A o p s := by
  intro q hq ht
  obtain ⟨j, h1, h2, h3⟩ := nextV_of ho hq hp ht
  exact h j h1 h2 q (hq.trans (swapV_perm o p j hp h2).symm) h3
theorem LowV.end_ {C : List Int → Int} {A : List Int → Bool} {o : List Int} {s : Option Int} (hm : A o = true → ∃ m, s = some m ∧ m ≤ C o) : LowV C A o o.length s := by
  intro q hq ht ha
  have e : q = o := by
    rw [List.take_length] at ht
    rw [← ht, ← hq.length_eq, List.take_length]
  subst e
  exact hm ha
theorem LowV.any {C : List Int → Int} {A : List Int → Bool} {o : List Int} {s : Option Int} (h : LowV C A o 0 s) (q : List Int) (hq : q.Perm o) (ha : A q = true) : ∃ m, s = some m ∧ m ≤ C q := h q hq (by simp) ha
end Go.Proofs.Ytbffdpcogfmomaa
