/- Dividing among some schools: plain facts. -/
import Derived.Test.YtnjaacmcdkiilaaShOrdM
import Derived.Test.YtnjaacmcdkiilaaShSumM
set_option linter.unusedVariables false
namespace Go.Proofs.Ytnjaacmcdkiilaa
open Go.RowKit

abbrev OkAt (ss : List Int) (n i : Nat) : Prop := (0 ≤ at0 ss i ∧ at0 ss i < (n : Int)) ∧ (0 < i → at0 ss (i - 1) < at0 ss i)
def someB (ss : List Int) (n : Nat) : Bool := decide (1 ≤ ss.length ∧ ∀ i, i < ss.length → OkAt ss n i)
theorem someB_iff {ss : List Int} {n : Nat} : someB ss n = true ↔ 1 ≤ ss.length ∧ ∀ i, i < ss.length → OkAt ss n i := by unfold someB; rw [decide_eq_true_iff]
theorem some_lt {ss : List Int} {n : Nat} (h : ∀ i, i < ss.length → OkAt ss n i) (i j : Nat) (hij : i < j) (hj : j < ss.length) : at0 ss i < at0 ss j := by
  induction j with
  | zero => omega
  | succ j ih =>
    have h1 := (h (j + 1) hj).2 (by omega)
    rw [Nat.add_sub_cancel] at h1
    by_cases e : i = j
    · subst e; exact h1
    · have := ih (by omega) (by omega); omega
theorem some_ge {ss : List Int} {n : Nat} (h : ∀ i, i < ss.length → OkAt ss n i) (i : Nat) (hi : i < ss.length) : (i : Int) ≤ at0 ss i := by
  induction i with
  | zero => have := (h 0 hi).1.1; omega
  | succ i ih => have := ih (by omega); have := some_lt h i (i + 1) (by omega) hi; omega
theorem some_len {ss : List Int} {n : Nat} (h : ∀ i, i < ss.length → OkAt ss n i) : ss.length ≤ n := by
  rcases Nat.eq_zero_or_pos ss.length with e | e
  · omega
  · have h1 := some_ge h (ss.length - 1) (by omega)
    have h2 := (h (ss.length - 1) (by omega)).1.2
    omega
def pickTo (os ss : List Int) : Nat → List Int
  | 0 => []
  | k + 1 => pickTo os ss k ++ [at0 os (at0 ss k).toNat]
theorem pickTo_len (os ss : List Int) (k : Nat) : (pickTo os ss k).length = k := by
  induction k with
  | zero => rfl
  | succ k ih => simp [pickTo, ih]
theorem pickTo_at (os ss : List Int) (n k : Nat) (h : k < n) : at0 (pickTo os ss n) k = at0 os (at0 ss k).toNat := by
  induction n with
  | zero => omega
  | succ n ih =>
    rw [pickTo]
    by_cases hk : k < n
    · rw [← ih hk]
      unfold at0
      rw [List.getElem?_append_left (by rw [pickTo_len]; exact hk)]
    · obtain rfl : k = n := by omega
      show ((pickTo os ss k ++ [at0 os (at0 ss k).toNat])[k]?.getD 0) = _
      rw [List.getElem?_append_right (by rw [pickTo_len]; omega), pickTo_len]; simp
def pickL (os ss : List Int) : List Int := pickTo os ss ss.length
theorem pickL_len (os ss : List Int) : (pickL os ss).length = ss.length := pickTo_len _ _ _
theorem pickL_at (os ss : List Int) {k : Nat} (h : k < ss.length) : at0 (pickL os ss) k = at0 os (at0 ss k).toNat := pickTo_at _ _ _ _ h
theorem pick_okO {os ss : List Int} (ho : okO os = true) (h : someB ss os.length = true) : okO (pickL os ss) = true := by
  obtain ⟨h1, h2⟩ := someB_iff.1 h
  obtain ⟨g1, g2, g3⟩ := okO_len ho
  have hl := some_len h2
  unfold okO
  rw [Bool.and_eq_true, decide_eq_true_iff, pickL_len]
  refine ⟨⟨h1, by omega⟩, all_of_at fun k hk => ?_⟩
  rw [pickL_len] at hk
  rw [pickL_at _ _ hk]
  have := h2 k hk
  exact allIn_at g3 _ (by omega)
theorem pick_okMs {os ms ss : List Int} (hm : okMs os ms = true) (h : someB ss os.length = true) : okMs (pickL os ss) (pickL ms ss) = true := by
  obtain ⟨h1, h2⟩ := someB_iff.1 h
  obtain ⟨g1, g2⟩ := okMs_len hm
  unfold okMs
  rw [Bool.and_eq_true, decide_eq_true_iff, pickL_len, pickL_len]
  refine ⟨rfl, all_of_at fun k hk => ?_⟩
  rw [pickL_len] at hk
  rw [pickL_at _ _ hk]
  have := h2 k hk
  exact allIn_at g2 _ (by omega)
theorem cmp_relabel {ss : List Int} {n : Nat} (h : ∀ i, i < ss.length → OkAt ss n i) {j k : Nat} (hj : j < ss.length) (hk : k < ss.length) : cmpI (k : Int) (j : Int) = cmpI (at0 ss k) (at0 ss j) := by
  rcases Nat.lt_trichotomy j k with e | e | e
  · have := some_lt h j k e hk
    rcases cmpI_cases (k : Int) (j : Int) with g | g | g <;> rcases cmpI_cases (at0 ss k) (at0 ss j) with g' | g' | g' <;> omega
  · subst e; rw [cmpI_self, cmpI_self]
  · have := some_lt h k j e hj
    rcases cmpI_cases (k : Int) (j : Int) with g | g | g <;> rcases cmpI_cases (at0 ss k) (at0 ss j) with g' | g' | g' <;> omega
theorem ordered_pick {kind : Int} {os ms ss : List Int} (h : someB ss os.length = true) (hO : Ordered kind os ms) : Ordered kind (pickL os ss) (pickL ms ss) := by
  obtain ⟨h1, h2⟩ := someB_iff.1 h
  intro j k hj hk hp
  rw [pickL_len] at hj hk
  rw [pickL_at _ _ hj] at hp
  have bj := h2 j hj
  have bk := h2 k hk
  have := hO (at0 ss j).toNat (at0 ss k).toNat (by omega) (by omega) hp
  have e1 : heldC kind (pickL os ss) (pickL ms ss) j = ((j : Int), (heldC kind os ms (at0 ss j).toNat).2) := by
    unfold heldC; rw [pickL_at _ _ hj, pickL_at _ _ hj]
  have e2 : nextC kind (pickL os ss) (pickL ms ss) k = ((k : Int), (nextC kind os ms (at0 ss k).toNat).2) := by
    unfold nextC; rw [pickL_at _ _ hk, pickL_at _ _ hk]
  rw [e1, e2]
  have f1 : (heldC kind os ms (at0 ss j).toNat).1 = at0 ss j := by simp only [heldC]; omega
  have f2 : (nextC kind os ms (at0 ss k).toNat).1 = at0 ss k := by simp only [nextC]; omega
  generalize heldC kind os ms (at0 ss j).toNat = c at *
  generalize nextC kind os ms (at0 ss k).toNat = d at *
  obtain ⟨c1, c2⟩ := c
  obtain ⟨d1, d2⟩ := d
  dsimp only at f1 f2
  subst f1 f2
  unfold rankL at this ⊢
  have es : sizeL ((j : Int), c2) ((k : Int), d2) = sizeL (at0 ss j, c2) (at0 ss k, d2) := rfl
  rw [es]
  split at this
  · rename_i hz
    rw [if_pos hz]
    dsimp only at this ⊢
    rw [cmp_relabel h2 hj hk]
    exact this
  · rename_i hz
    rw [if_neg hz]
    exact this
theorem sum_le_eq {a b : List Int} (hl : a.length = b.length) (h : ∀ k, k < a.length → at0 a k ≤ at0 b k) : sumL a ≤ sumL b ∧ (sumL a = sumL b → a = b) := by
  induction a generalizing b with
  | nil =>
    cases b with
    | nil => exact ⟨Int.le_refl _, fun _ => rfl⟩
    | cons y t => simp at hl
  | cons x s ih =>
    cases b with
    | nil => simp at hl
    | cons y t =>
      have h0 : x ≤ y := h 0 (by simp)
      have ih := ih (b := t) (by simpa using hl) (fun k hk => h (k + 1) (by simpa using hk))
      simp only [sumL]
      refine ⟨by omega, fun e => ?_⟩
      rw [ih.2 (by omega), show x = y by omega]
theorem stepV_mono {kind a b : Int} (h : a ≤ b) : stepV kind a ≤ stepV kind b := by
  unfold stepV; split
  · omega
  · split <;> omega
theorem stepV_smono {kind a b : Int} (h : a < b) : stepV kind a < stepV kind b := by
  unfold stepV; split
  · omega
  · split <;> omega
theorem rank_mono {kind s v a b : Int} (hv : 0 < v) (ha : 0 ≤ stepV kind a) (h : a ≤ b) : 0 ≤ rankL (s, v, stepV kind a) (s, v, stepV kind b) := by
  by_cases e : a = b
  · subst e; rw [rankL_self]; omega
  · have := rankL_pos (c := (s, v, stepV kind a)) (d := (s, v, stepV kind b)) (szC_falls hv ha (stepV_smono (by omega)))
    omega
/-- Only one way of dividing keeps claims in order. -/
theorem ordered_unique {kind : Int} {os a b : List Int} (ho : okO os = true) (ha : okMs os a = true) (hb : okMs os b = true) (hA : Ordered kind os a) (hB : Ordered kind os b) (hs : sumL a = sumL b) : a = b := by
  obtain ⟨la, va⟩ := okMs_len ha
  obtain ⟨lb, vb⟩ := okMs_len hb
  by_cases h1 : ∀ k, k < a.length → at0 a k ≤ at0 b k
  · exact (sum_le_eq (by omega) h1).2 hs
  · by_cases h2 : ∀ k, k < b.length → at0 b k ≤ at0 a k
    · exact ((sum_le_eq (by omega) h2).2 hs.symm).symm
    · exfalso
      have ⟨i, hi⟩ : ∃ i, ¬ (i < a.length → at0 a i ≤ at0 b i) := Classical.not_forall.1 h1
      have ⟨k, hk⟩ : ∃ k, ¬ (k < b.length → at0 b k ≤ at0 a k) := Classical.not_forall.1 h2
      have hi1 : i < a.length := by omega
      have hi2 : at0 b i < at0 a i := by omega
      have hk1 : k < b.length := by omega
      have hk2 : at0 a k < at0 b k := by omega
      have ai : 0 ≤ at0 a i ∧ at0 a i ≤ 1000 := allIn_at va i hi1
      have bi : 0 ≤ at0 b i ∧ at0 b i ≤ 1000 := allIn_at vb i (by omega)
      have ak : 0 ≤ at0 a k ∧ at0 a k ≤ 1000 := allIn_at va k (by omega)
      have bk : 0 ≤ at0 b k ∧ at0 b k ≤ 1000 := allIn_at vb k hk1
      have r1 := hA i k (by omega) (by omega) (by omega)
      have r2 := hB k i (by omega) (by omega) (by omega)
      have g1 := heldC_good (kind := kind) ho ha (by omega : i < os.length) (by omega)
      have g2 := nextC_good (kind := kind) ho ha (by omega : k < os.length)
      have g3 := heldC_good (kind := kind) ho hb (by omega : k < os.length) (by omega)
      have g4 := nextC_good (kind := kind) ho hb (by omega : i < os.length)
      have m1 : 0 ≤ rankL (nextC kind os b i) (heldC kind os a i) := rank_mono (by have := g4.2.1.1; simp only [nextC] at this; omega) g4.2.2.1 (by omega)
      have m2 : 0 ≤ rankL (nextC kind os a k) (heldC kind os b k) := rank_mono (by have := g2.2.1.1; simp only [nextC] at this; omega) g2.2.2.1 (by omega)
      have t1 := rankL_trans g4 g1 g2 m1 (by omega)
      have t2 := rankL_trans g4 g2 g3 t1 m2
      have := rankL_neg (heldC kind os b k) (nextC kind os b i)
      omega
theorem sum_take_mono {a : List Int} (h : ∀ k, k < a.length → 0 ≤ at0 a k) (i j : Nat) (hij : i ≤ j) (hj : j ≤ a.length) : sumL (a.take i) ≤ sumL (a.take j) := by
  induction j with
  | zero =>
    obtain rfl : i = 0 := by omega
    exact Int.le_refl _
  | succ j ih =>
    by_cases e : i = j + 1
    · subst e; exact Int.le_refl _
    · have h1 := ih (by omega) (by omega)
      have h2 := sumL_take a j (by omega)
      have h3 : 0 ≤ a[j]?.getD 0 := h j (by omega)
      omega
theorem pick_sum {a ss : List Int} {n : Nat} (hl : a.length = n) (h : ∀ k, k < a.length → 0 ≤ at0 a k) (h2 : ∀ i, i < ss.length → OkAt ss n i) (k : Nat) (hk : k ≤ ss.length) : 0 ≤ sumL (pickTo a ss k) ∧ sumL (pickTo a ss k) ≤ sumL (a.take (if k = 0 then 0 else (at0 ss (k - 1)).toNat + 1)) := by
  induction k with
  | zero => simp [pickTo, sumL]
  | succ k ih =>
    obtain ⟨i1, i2⟩ := ih (by omega)
    have bk := h2 k (by omega)
    have hs := sumL_take a (at0 ss k).toNat (by omega)
    have h0 : 0 ≤ a[(at0 ss k).toNat]?.getD 0 := h _ (by omega)
    have hmono : sumL (a.take (if k = 0 then 0 else (at0 ss (k - 1)).toNat + 1)) ≤ sumL (a.take (at0 ss k).toNat) := by
      refine sum_take_mono h _ _ ?_ (by omega)
      split
      · omega
      · have := bk.2 (by omega); have := (h2 (k - 1) (by omega)).1; omega
    rw [pickTo, sumL_app, if_neg (by omega), Nat.add_sub_cancel, hs]
    have e : sumL [at0 a (at0 ss k).toNat] = a[(at0 ss k).toNat]?.getD 0 := by simp [sumL, at0]
    rw [e]
    omega
/-- What some schools have is what they get among themselves. -/
theorem give_pick {kind : Int} {os ss : List Int} (ho : okO os = true) (h : someB ss os.length = true) (n : Nat) (hn : n ≤ 1000) : ∃ m : Nat, sumL (pickL (giveL kind os n).2 ss) = (m : Int) ∧ m ≤ 1000 ∧ (giveL kind (pickL os ss) m).2 = pickL (giveL kind os n).2 ss := by
  obtain ⟨h1, h2⟩ := someB_iff.1 h
  have hl := giveL_len2 kind os n
  have hm := giveL_ok kind os n hn
  have hsum := giveL_sum (kind := kind) (okO_len ho).1 n
  have hnn : ∀ k, k < (giveL kind os n).2.length → 0 ≤ at0 (giveL kind os n).2 k := fun k _ => (giveL_bd kind os n k).1
  obtain ⟨s1, s2⟩ := pick_sum hl hnn h2 ss.length (Nat.le_refl _)
  have s3 : sumL ((giveL kind os n).2.take (if ss.length = 0 then 0 else (at0 ss (ss.length - 1)).toNat + 1)) ≤ sumL ((giveL kind os n).2.take (giveL kind os n).2.length) := by
    refine sum_take_mono hnn _ _ ?_ (Nat.le_refl _)
    split
    · omega
    · have := (h2 (ss.length - 1) (by omega)).1; omega
  rw [List.take_length, hsum] at s3
  obtain ⟨m, hm'⟩ := Int.eq_ofNat_of_zero_le (show 0 ≤ sumL (pickL (giveL kind os n).2 ss) from s1)
  have hmn : m ≤ n := by have : sumL (pickL (giveL kind os n).2 ss) ≤ n := Int.le_trans s2 s3; omega
  refine ⟨m, hm', by omega, ?_⟩
  have hop := pick_okO ho h
  refine ordered_unique hop (giveL_ok kind _ m (by omega)) (pick_okMs hm h) (giveL_ordered hop m (by omega)) (ordered_pick h (giveL_ordered ho n hn)) ?_
  rw [giveL_sum (okO_len hop).1, hm']
end Go.Proofs.Ytnjaacmcdkiilaa
