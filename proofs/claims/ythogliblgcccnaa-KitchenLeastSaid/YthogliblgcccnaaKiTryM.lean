/- Trying all orders by exchanges. Plain mathematics. -/
import Derived.Test.YthogliblgcccnaaKiOrdM
set_option linter.unusedVariables false
namespace Go.Proofs.Ythogliblgcccnaa

def swapL (o : List Int) (i j : Nat) : List Int := (o.set i (oAt o j)).set j (oAt o i)
theorem swapL_len (o : List Int) (i j : Nat) : (swapL o i j).length = o.length := by simp [swapL]
theorem oAt_set (o : List Int) (i : Nat) (x : Int) (k : Nat) : oAt (o.set i x) k = if k = i ∧ i < o.length then x else oAt o k := by
  unfold oAt
  rw [List.getElem?_set]
  by_cases h : i = k
  · subst h
    by_cases h2 : i < o.length
    · simp [h2]
    · simp [h2]
  · simp [h, Ne.symm h]
theorem swapL_at (o : List Int) (i j k : Nat) (hi : i < o.length) (hj : j < o.length) : oAt (swapL o i j) k = if k = j then oAt o i else if k = i then oAt o j else oAt o k := by
  unfold swapL
  rw [oAt_set, oAt_set, List.length_set]
  by_cases h1 : k = j
  · simp [h1, hj]
  · by_cases h2 : k = i
    · simp [h2, hi, hj]
    · simp [h1, h2]
theorem oAt_ext {o p : List Int} (h : o.length = p.length) (hk : ∀ k, k < o.length → oAt o k = oAt p k) : o = p := by
  refine List.ext_getElem h fun k h1 h2 => ?_
  have := hk k h1
  simpa [oAt, h1, h2] using this
theorem swapL_swapL (o : List Int) (i j : Nat) (hi : i < o.length) (hj : j < o.length) : swapL (swapL o i j) i j = o := by
  refine oAt_ext (by rw [swapL_len, swapL_len]) fun k hk => ?_
  have hl := swapL_len o i j
  rw [swapL_at _ _ _ _ (by omega) (by omega), swapL_at o i j i hi hj, swapL_at o i j j hi hj, swapL_at o i j k hi hj]
  by_cases h1 : k = j
  · subst h1; simp
    intro h; rw [h]
  · by_cases h2 : k = i
    · subst h2; simp [h1]
    · simp [h1, h2]
theorem oAt_take (o : List Int) (p k : Nat) (h : k < p) : oAt (o.take p) k = oAt o k := by
  unfold oAt; rw [List.getElem?_take_of_lt h]
theorem take_ext {o q : List Int} {p : Nat} (h1 : p ≤ o.length) (h2 : p ≤ q.length) (hk : ∀ k, k < p → oAt o k = oAt q k) : o.take p = q.take p := by
  refine oAt_ext (by simp; omega) fun k hkl => ?_
  have : k < p := by simp at hkl; omega
  rw [oAt_take o p k this, oAt_take q p k this]; exact hk k this
theorem take_at {o q : List Int} {p : Nat} (h : o.take p = q.take p) (k : Nat) (hk : k < p) : oAt o k = oAt q k := by
  rw [← oAt_take o p k hk, h, oAt_take q p k hk]
theorem mem_oAt {o : List Int} {x : Int} (h : x ∈ o) : ∃ k, k < o.length ∧ oAt o k = x := by
  obtain ⟨k, hk, he⟩ := List.getElem_of_mem h
  exact ⟨k, hk, by simp [oAt, hk, he]⟩
theorem oAt_mem2 (o : List Int) (k : Nat) (h : k < o.length) : oAt o k ∈ o := by simp [oAt, h]
theorem oAt_inj {o : List Int} (hn : o.Nodup) {i j : Nat} (hi : i < o.length) (hj : j < o.length) (he : oAt o i = oAt o j) : i = j := by
  have h1 : o[i] = o[j] := by simpa [oAt, hi, hj] using he
  exact (List.getElem_inj hn).1 h1
theorem inj_nodup {o : List Int} (h : ∀ i j, i < o.length → j < o.length → oAt o i = oAt o j → i = j) : o.Nodup := by
  unfold List.Nodup
  rw [List.pairwise_iff_getElem]
  intro i j hi hj hij he
  have := h i j hi hj (by simpa [oAt, hi, hj] using he)
  omega
/-- An exchange leaves an order. -/
theorem swapL_ord {o : List Int} {n : Nat} (h : IsOrd o n) {i j : Nat} (hi : i < o.length) (hj : j < o.length) : IsOrd (swapL o i j) n := by
  have hl := swapL_len o i j
  have hol := h.len
  refine (pigeon n _ ?_ ?_).2 (by omega)
  · refine inj_nodup fun a b ha hb he => ?_
    rw [swapL_at o i j a hi hj, swapL_at o i j b hi hj] at he
    have key : ∀ x y : Nat, x < o.length → y < o.length → oAt o x = oAt o y → x = y := fun x y hx hy e => oAt_inj h.nodup hx hy e
    by_cases a1 : a = j <;> by_cases b1 : b = j <;> by_cases a2 : a = i <;> by_cases b2 : b = i <;> simp only [a1, b1, a2, b2, if_true, if_false] at he ⊢ <;> first | omega | (have := key _ _ (by omega) (by omega) he; omega) | skip
    all_goals (split at he <;> first | omega | (have := key _ _ (by omega) (by omega) he; omega) | (split at he <;> first | omega | (have := key _ _ (by omega) (by omega) he; omega)))
  · intro x hx
    obtain ⟨k, hk, rfl⟩ := mem_oAt hx
    rw [swapL_at o i j k hi hj]
    split
    · exact h.mem (oAt_mem2 o i hi)
    · split
      · exact h.mem (oAt_mem2 o j hj)
      · exact h.mem (oAt_mem2 o k (by omega))
/-- Another order with the same beginning has, at the next place, one of the rest. -/
theorem next_of {o q : List Int} {n p : Nat} (ho : IsOrd o n) (hq : IsOrd q n) (hp : p < n) (h : q.take p = o.take p) : ∃ j, p ≤ j ∧ j < n ∧ q.take (p + 1) = (swapL o p j).take (p + 1) := by
  have hol := ho.len
  have hql := hq.len
  have hm : oAt q p ∈ o := ho.mem_iff.2 (hq.mem_iff.1 (oAt_mem2 q p (by omega)))
  obtain ⟨j, hj, he⟩ := mem_oAt hm
  have hpj : p ≤ j := by
    rcases Nat.lt_or_ge j p with h1 | h1
    · exfalso
      have e := take_at h j h1
      rw [he] at e
      have := oAt_inj hq.nodup (by omega) (by omega) e
      omega
    · exact h1
  refine ⟨j, hpj, by omega, take_ext (by omega) (by rw [swapL_len]; omega) fun k hk => ?_⟩
  rw [swapL_at o p j k (by omega) (by omega)]
  by_cases h1 : k = p
  · subst h1
    by_cases h2 : k = j
    · rw [if_pos h2]; subst h2; exact he.symm
    · rw [if_neg h2, if_pos rfl]; exact he.symm
  · rw [if_neg (by omega), if_neg h1]
    exact take_at h k (by omega)
theorem swapL_take (o : List Int) (p j : Nat) (hj : j < o.length) (hp : p ≤ j) : (swapL o p j).take p = o.take p := by
  refine take_ext (by rw [swapL_len]; omega) (by omega) fun k hk => ?_
  rw [swapL_at o p j k (by omega) hj, if_neg (by omega), if_neg (by omega)]
theorem take_all {o q : List Int} {n : Nat} (ho : o.length = n) (hq : q.length = n) (h : q.take n = o.take n) : q = o := by
  rw [← ho] at h
  rw [List.take_length] at h
  rw [← h, ho, ← hq, List.take_length]
/-- m is no greater than the time of any order with these first p places. -/
def LowP (l : List Bt) (o : List Int) (p : Nat) (m : Int) : Prop := ∀ q, IsOrd q l.length → q.take p = o.take p → m ≤ timeO l q
/-- The same, of the orders that have one of the places p to p + k - 1 of o at the place p. -/
def LowK (l : List Bt) (o : List Int) (p k : Nat) (m : Int) : Prop := ∀ j, p ≤ j → j < p + k → LowP l (swapL o p j) (p + 1) m
theorem LowK.zero (l : List Bt) (o : List Int) (p : Nat) (m : Int) : LowK l o p 0 m := fun j h1 h2 => by omega
theorem LowP.le {l : List Bt} {o : List Int} {p : Nat} {m m' : Int} (h : LowP l o p m) (hm : m' ≤ m) : LowP l o p m' := fun q h1 h2 => Int.le_trans hm (h q h1 h2)
theorem LowK.more {l : List Bt} {o : List Int} {p k : Nat} {m m' : Int} (h : LowK l o p k m) (hm : m' ≤ m) (h2 : LowP l (swapL o p (p + k)) (p + 1) m') : LowK l o p (k + 1) m' := by
  intro j h3 h4
  rcases Nat.lt_or_ge j (p + k) with h5 | h5
  · exact (h j h3 h5).le hm
  · rw [show j = p + k by omega]; exact h2
theorem LowK.all {l : List Bt} {o : List Int} {p : Nat} {m : Int} (ho : IsOrd o l.length) (hp : p < l.length) (h : LowK l o p (l.length - p) m) : LowP l o p m := by
  intro q hq ht
  obtain ⟨j, h1, h2, h3⟩ := next_of ho hq hp ht
  exact h j h1 (by omega) q hq h3
theorem LowP.end_ {l : List Bt} {o : List Int} {m : Int} (ho : IsOrd o l.length) (hm : m ≤ timeO l o) : LowP l o l.length m := by
  intro q hq ht
  rw [take_all ho.len hq.len ht]; exact hm
theorem LowP.least {l : List Bt} {o : List Int} {m : Int} (h : LowP l o 0 m) (hm : ∃ q, IsOrd q l.length ∧ timeO l q = m) : IsLeast l m :=
  ⟨hm, fun q hq => h q hq (by simp)⟩
/-- What comes behind the first places does not change what has been cooked and packed. -/
theorem seqO_take {l : List Bt} {o q : List Int} {p : Nat} (h : q.take p = o.take p) (ho : p ≤ o.length) (hq : p ≤ q.length) : ∀ k, k ≤ p → cookTo (seqO l q) k = cookTo (seqO l o) k ∧ packTo (seqO l q) k = packTo (seqO l o) k := by
  intro k
  induction k with
  | zero => intro _; exact ⟨rfl, rfl⟩
  | succ k ih =>
    intro hk
    obtain ⟨h1, h2⟩ := ih (by omega)
    have e : btAt (seqO l q) k = btAt (seqO l o) k := by
      rw [seqO_at l q k (by omega), seqO_at l o k (by omega), take_at h k (by omega)]
    constructor
    · simp only [cookTo]; rw [h1, e]
    · simp only [packTo, cookTo]; rw [h1, h2, e]
end Go.Proofs.Ythogliblgcccnaa
