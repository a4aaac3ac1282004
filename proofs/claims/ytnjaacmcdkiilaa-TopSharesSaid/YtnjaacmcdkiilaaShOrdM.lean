/- The order of claims; the greatest and the smallest; dividing keeps claims in order. -/
import Derived.Test.YtnjaacmcdkiilaaShM
set_option linter.unusedVariables false
namespace Go.Proofs.Ytnjaacmcdkiilaa

theorem cmpI_ge {a b : Int} : 0 ≤ cmpI a b ↔ b ≤ a := by rcases cmpI_cases a b with h | h | h <;> omega
theorem cmpI_neg (a b : Int) : cmpI b a = - cmpI a b := by rcases cmpI_cases a b with h | h | h <;> rcases cmpI_cases b a with g | g | g <;> omega
theorem cmpI_self (a : Int) : cmpI a a = 0 := by rcases cmpI_cases a a with h | h | h <;> omega
theorem cmpI_zero {a b : Int} (h : cmpI a b = 0) : a = b := by rcases cmpI_cases a b with g | g | g <;> omega
theorem szC_neg (v a w b : Int) : szC w b v a = - szC v a w b := by
  unfold szC
  by_cases h : a = 0 ∧ b = 0
  · rw [if_pos h, if_pos h.symm]; exact cmpI_neg _ _
  · rw [if_neg h, if_neg (fun g => h g.symm)]; exact cmpI_neg _ _
theorem szC_top {v a w b : Int} (ha : a = 0) (hb : 0 < b) (hv : 0 < v) : szC v a w b = 1 := by
  subst ha
  have h : 0 < v * b := Int.mul_pos hv hb
  unfold szC
  rw [if_neg (by omega), Int.mul_zero]
  rcases cmpI_cases (v * b) 0 with h' | h' | h' <;> omega
theorem szC_bot {v a w b : Int} (hb : b = 0) (ha : 0 < a) (hw : 0 < w) : szC v a w b = -1 := by
  rw [szC_neg, szC_top hb ha hw]
theorem szC_trans {v a w b x c : Int} (hv : 0 < v) (hw : 0 < w) (hx : 0 < x) (ha : 0 ≤ a) (hb : 0 ≤ b) (hc : 0 ≤ c) (h1 : 0 ≤ szC v a w b) (h2 : 0 ≤ szC w b x c) : 0 ≤ szC v a x c := by
  by_cases a0 : a = 0
  · by_cases c0 : c = 0
    · have b0 : b = 0 := by
        by_cases b0 : b = 0
        · exact b0
        · rw [szC_bot c0 (by omega) hx] at h2; omega
      subst a0 b0 c0
      simp only [szC, and_self, if_true] at *
      rw [cmpI_ge] at *
      omega
    · rw [szC_top a0 (by omega) hv]; omega
  · have b0 : b ≠ 0 := fun b0 => by rw [szC_bot b0 (by omega) hw] at h1; omega
    have c0 : c ≠ 0 := fun c0 => by rw [szC_bot c0 (by omega) hx] at h2; omega
    unfold szC at *
    rw [if_neg (by omega)] at *
    rw [cmpI_ge] at *
    have e1 : w * a * c ≤ v * b * c := Int.mul_le_mul_of_nonneg_right h1 hc
    have e2 : x * b * a ≤ w * c * a := Int.mul_le_mul_of_nonneg_right h2 ha
    have e3 : w * a * c = w * c * a := by rw [Int.mul_assoc, Int.mul_comm a c, ← Int.mul_assoc]
    have e4 : x * b * a = x * a * b := by rw [Int.mul_assoc, Int.mul_comm b a, ← Int.mul_assoc]
    have e5 : v * b * c = v * c * b := by rw [Int.mul_assoc, Int.mul_comm b c, ← Int.mul_assoc]
    exact Int.le_of_mul_le_mul_right (by omega : x * a * b ≤ v * c * b) (by omega : 0 < b)
theorem sizeL_neg (c d : ClaimL) : sizeL d c = - sizeL c d := szC_neg _ _ _ _
theorem sizeL_trans {c d e : ClaimL} (hc : GoodC c) (hd : GoodC d) (he : GoodC e) (h1 : 0 ≤ sizeL c d) (h2 : 0 ≤ sizeL d e) : 0 ≤ sizeL c e :=
  szC_trans (by have := hc.2.1; omega) (by have := hd.2.1; omega) (by have := he.2.1; omega) hc.2.2.1 hd.2.2.1 he.2.2.1 h1 h2
theorem sizeL_self (c : ClaimL) : sizeL c c = 0 := by have := sizeL_neg c c; omega
theorem rankL_neg (c d : ClaimL) : rankL d c = - rankL c d := by
  unfold rankL
  have := sizeL_neg c d
  by_cases h : sizeL c d = 0
  · rw [if_pos (by omega), if_pos h]; exact cmpI_neg _ _
  · rw [if_neg (by omega), if_neg h]; exact this
theorem rankL_self (c : ClaimL) : rankL c c = 0 := by have := rankL_neg c c; omega
theorem rankL_size {c d : ClaimL} (h : 0 ≤ rankL c d) : 0 ≤ sizeL c d := by
  unfold rankL at h
  split at h <;> omega
theorem rankL_zero {c d : ClaimL} (h : rankL c d = 0) : c.1 = d.1 := by
  unfold rankL at h
  split at h
  · exact (cmpI_zero h).symm
  · omega
theorem rankL_pos {c d : ClaimL} (h : 0 < sizeL c d) : 0 < rankL c d := by
  unfold rankL; rw [if_neg (by omega)]; exact h
theorem rankL_trans {c d e : ClaimL} (hc : GoodC c) (hd : GoodC d) (he : GoodC e) (h1 : 0 ≤ rankL c d) (h2 : 0 ≤ rankL d e) : 0 ≤ rankL c e := by
  have s1 := rankL_size h1
  have s2 := rankL_size h2
  have s3 := sizeL_trans hc hd he s1 s2
  by_cases h : sizeL c e = 0
  · have t1 := sizeL_trans hd he hc s2 (by rw [sizeL_neg]; omega)
    have t2 := sizeL_trans he hc hd (by rw [sizeL_neg]; omega) s1
    have n1 := sizeL_neg d c
    have n2 := sizeL_neg e d
    unfold rankL at *
    rw [if_pos (by omega)] at *
    rw [cmpI_ge] at *
    omega
  · unfold rankL; rw [if_neg h]; exact s3
theorem maxTo_ge {f : ClaimL → ClaimL → Int} (hn : ∀ c d, f d c = - f c d) (ht : ∀ c d e, GoodC c → GoodC d → GoodC e → 0 ≤ f c d → 0 ≤ f d e → 0 ≤ f c e) {l : List ClaimL} (hg : ∀ c ∈ l, GoodC c) (k : Nat) (hk : k < l.length) : ∀ j, j ≤ k → 0 ≤ f (maxTo f l k) (clAt l j) := by
  have hs : ∀ c, f c c = 0 := fun c => by have := hn c c; omega
  induction k with
  | zero =>
    intro j hj
    obtain rfl : j = 0 := by omega
    rw [maxTo, hs]; omega
  | succ k ih =>
    intro j hj
    have gm := hg _ (maxTo_mem f l k (by omega))
    have gx := hg _ (clAt_mem l (k + 1) hk)
    rw [maxTo]
    split
    · rename_i h
      by_cases e : j = k + 1
      · subst e; rw [hs]; omega
      · exact ht _ _ _ gx gm (hg _ (clAt_mem l j (by omega))) (by omega) (ih (by omega) j (by omega))
    · rename_i h
      by_cases e : j = k + 1
      · subst e; have := hn (clAt l (k + 1)) (maxTo f l k); omega
      · exact ih (by omega) j (by omega)
theorem minTo_le {f : ClaimL → ClaimL → Int} (hn : ∀ c d, f d c = - f c d) (ht : ∀ c d e, GoodC c → GoodC d → GoodC e → 0 ≤ f c d → 0 ≤ f d e → 0 ≤ f c e) {l : List ClaimL} (hg : ∀ c ∈ l, GoodC c) (k : Nat) (hk : k < l.length) : ∀ j, j ≤ k → 0 ≤ f (clAt l j) (minTo f l k) := by
  have hs : ∀ c, f c c = 0 := fun c => by have := hn c c; omega
  induction k with
  | zero =>
    intro j hj
    obtain rfl : j = 0 := by omega
    rw [minTo, hs]; omega
  | succ k ih =>
    intro j hj
    have gm := hg _ (minTo_mem f l k (by omega))
    have gx := hg _ (clAt_mem l (k + 1) hk)
    rw [minTo]
    split
    · rename_i h
      by_cases e : j = k + 1
      · subst e; rw [hs]; omega
      · exact ht _ _ _ (hg _ (clAt_mem l j (by omega))) gm gx (ih (by omega) j (by omega)) (by have := hn (clAt l (k + 1)) (minTo f l k); omega)
    · rename_i h
      by_cases e : j = k + 1
      · subst e; omega
      · exact ih (by omega) j (by omega)
theorem mem_clAt {l : List ClaimL} {c : ClaimL} (h : c ∈ l) : ∃ j, j < l.length ∧ clAt l j = c := by
  obtain ⟨j, hj, rfl⟩ := List.mem_iff_getElem.1 h
  exact ⟨j, hj, by unfold clAt; rw [List.getElem?_eq_getElem hj]; rfl⟩
/-- Claims fall. -/
theorem stepV_lt {kind k : Int} (h : 0 ≤ k) : stepV kind k < stepV kind (k + 1) := by
  unfold stepV; split
  · omega
  · split <;> omega
theorem szC_falls {v a b : Int} (hv : 0 < v) (ha : 0 ≤ a) (hab : a < b) : 0 < szC v a v b := by
  by_cases a0 : a = 0
  · rw [szC_top a0 (by omega) hv]; omega
  · unfold szC
    rw [if_neg (by omega)]
    have : v * a < v * b := Int.mul_lt_mul_of_pos_left hab hv
    rcases cmpI_cases (v * b) (v * a) with h | h | h <;> omega
theorem best_rank {kind : Int} {os ms : List Int} (ho : okO os = true) (hm : okMs os ms = true) (k : Nat) (hk : k < os.length) (hne : k ≠ bestL kind os ms) : 0 < rankL (nextC kind os ms (bestL kind os ms)) (nextC kind os ms k) := by
  obtain ⟨h1, h2, h3⟩ := okO_len ho
  have hg := nextTo_good (kind := kind) ho hm os.length (Nat.le_refl _)
  have hl := nextTo_len kind os ms os.length
  have := maxTo_ge (f := rankL) rankL_neg (fun c d e a b c' => rankL_trans a b c') hg (os.length - 1) (by omega) k (by omega)
  rw [maxTo_best _ _ _ _ _ (by omega), nextTo_at _ _ _ _ _ hk] at this
  rcases Int.lt_or_eq_of_le this with h | h
  · exact h
  · exact absurd (rankL_zero h.symm) (by simp only [nextC]; unfold bestL at hne; omega)
/-- What every way of dividing keeps: who has a meal has a greater claim for it than anybody for the next one. -/
def Ordered (kind : Int) (os ms : List Int) : Prop := ∀ j k, j < os.length → k < os.length → 0 < at0 ms j → 0 < rankL (heldC kind os ms j) (nextC kind os ms k)
theorem falls_rank {kind : Int} {os : List Int} (ho : okO os = true) {k : Nat} (hk : k < os.length) {m : Int} (hm : 0 ≤ m) (s : Int) : 0 < rankL (s, at0 os k, stepV kind m) (s, at0 os k, stepV kind (m + 1)) := by
  have h := allIn_at (okO_len ho).2.2 k hk
  refine rankL_pos (szC_falls (by show 0 < os[k]?.getD 0; omega) ?_ (stepV_lt hm))
  unfold stepV
  dsimp only
  split
  · omega
  · split <;> omega
theorem ordered_step {kind : Int} {os ms : List Int} (ho : okO os = true) (hm : okMs os ms = true) (hb : at0 ms (bestL kind os ms) < 1000) (h : Ordered kind os ms) : Ordered kind os (ms.set (bestL kind os ms) (at0 ms (bestL kind os ms) + 1)) := by
  have h1 := (okO_len ho).1
  have hc := bestL_lt (kind := kind) (ms := ms) h1
  have hml := (okMs_len hm).1
  have hmb := (okMs_len hm).2
  generalize hi : bestL kind os ms = i at *
  have e1 : ∀ k, k ≠ i → nextC kind os (ms.set i (at0 ms i + 1)) k = nextC kind os ms k := fun k hk => by
    unfold nextC; rw [at0_set _ _ _ _ (by omega), if_neg hk]
  have e2 : ∀ k, k ≠ i → heldC kind os (ms.set i (at0 ms i + 1)) k = heldC kind os ms k := fun k hk => by
    unfold heldC; rw [at0_set _ _ _ _ (by omega), if_neg hk]
  have e3 : heldC kind os (ms.set i (at0 ms i + 1)) i = nextC kind os ms i := by
    unfold heldC nextC; rw [at0_set _ _ _ _ (by omega), if_pos rfl, Int.add_sub_cancel]
  have bi : 0 ≤ at0 ms i ∧ at0 ms i ≤ 1000 := allIn_at hmb i (by omega)
  have e4 : 0 < rankL (nextC kind os ms i) (nextC kind os (ms.set i (at0 ms i + 1)) i) := by
    unfold nextC; rw [at0_set _ _ _ _ (by omega), if_pos rfl]
    exact falls_rank ho hc bi.1 _
  have hm' : okMs os (ms.set i (at0 ms i + 1)) = true := by
    unfold okMs
    rw [Bool.and_eq_true]
    refine ⟨by simp [hml], all_of_at fun k hk => ?_⟩
    rw [at0_set _ _ _ _ (by omega)]
    have bk : 0 ≤ at0 ms k ∧ at0 ms k ≤ 1000 := allIn_at hmb k (by simpa using hk)
    split <;> omega
  intro j k hj hk hp
  by_cases ej : j = i
  · subst ej
    rw [e3]
    by_cases ek : k = j
    · subst ek; exact e4
    · rw [e1 k ek]
      have := best_rank (kind := kind) ho hm k hk (by rw [hi]; exact ek)
      rw [hi] at this
      exact this
  · rw [e2 j ej]
    rw [at0_set _ _ _ _ (by omega), if_neg ej] at hp
    by_cases ek : k = i
    · subst ek
      have a1 := h j k hj hk hp
      have a2 := rankL_trans (heldC_good (kind := kind) ho hm hj hp) (nextC_good (kind := kind) ho hm hk) (nextC_good (kind := kind) ho hm' hk) (by omega) (by omega : 0 ≤ rankL (nextC kind os ms k) (nextC kind os (ms.set k (at0 ms k + 1)) k))
      rcases Int.lt_or_eq_of_le a2 with h' | h'
      · exact h'
      · exact absurd (rankL_zero h'.symm) (by simp only [heldC, nextC]; omega)
    · rw [e1 k ek]
      exact h j k hj hk hp
theorem ordered_zero (kind : Int) (os : List Int) (n : Nat) : Ordered kind os (List.replicate n 0) := by
  intro j k _ _ hp
  unfold at0 at hp
  rw [List.getElem?_replicate] at hp
  split at hp <;> simp at hp
theorem giveL_ordered {kind : Int} {os : List Int} (ho : okO os = true) (n : Nat) (hn : n ≤ 1000) : Ordered kind os (giveL kind os n).2 := by
  induction n with
  | zero => exact ordered_zero _ _ _
  | succ n ih =>
    rw [giveL]
    have := giveL_bd kind os n (bestL kind os (giveL kind os n).2)
    exact ordered_step ho (giveL_ok kind os n (by omega)) (by omega) (ih (by omega))
end Go.Proofs.Ytnjaacmcdkiilaa
