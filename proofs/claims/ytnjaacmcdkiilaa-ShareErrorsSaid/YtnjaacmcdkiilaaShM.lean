/- Dividing meals: plain functions. -/

set_option linter.unusedVariables false
namespace Go.Proofs.Ytnjaacmcdkiilaa

def inW (n lo hi : Int) : Bool := decide (lo ≤ n ∧ n ≤ hi)
def allIn (lo hi : Int) (l : List Int) : Bool := l.all (fun x => inW x lo hi)
theorem allIn_drop (lo hi : Int) (l : List Int) (k : Nat) (h : k < l.length) : allIn lo hi (l.drop k) = (inW (l[k]?.getD 0) lo hi && allIn lo hi (l.drop (k + 1))) := by
  rw [List.drop_eq_getElem_cons h, List.getElem?_eq_getElem h]; rfl
theorem allIn_at {lo hi : Int} {l : List Int} (h : allIn lo hi l = true) (k : Nat) (hk : k < l.length) : lo ≤ l[k]?.getD 0 ∧ l[k]?.getD 0 ≤ hi := by
  have := List.all_eq_true.1 h _ (List.getElem_mem hk)
  rw [List.getElem?_eq_getElem hk]
  simpa [inW] using this
def okO (os : List Int) : Bool := decide (1 ≤ os.length ∧ os.length ≤ 8) && allIn 1 1000000 os
def okK (k : Int) : Bool := decide (k = 0 ∨ k = 1 ∨ k = 2)
def okMs (os ms : List Int) : Bool := decide (ms.length = os.length) && allIn 0 1000 ms
def err (b : Bool) : Int := if b then 0 else 1
theorem okO_len {os : List Int} (h : okO os = true) : 1 ≤ os.length ∧ os.length ≤ 8 ∧ allIn 1 1000000 os = true := by
  simp only [okO, Bool.and_eq_true, decide_eq_true_eq] at h
  exact ⟨h.1.1, h.1.2, h.2⟩
theorem okMs_len {os ms : List Int} (h : okMs os ms = true) : ms.length = os.length ∧ allIn 0 1000 ms = true := by
  simp only [okMs, Bool.and_eq_true, decide_eq_true_eq] at h
  exact h
theorem okK_cases {k : Int} (h : okK k = true) : k = 0 ∨ k = 1 ∨ k = 2 := by simpa [okK] using h

def cmpI (a b : Int) : Int := if a < b then -1 else if b < a then 1 else 0
theorem cmpI_cases (a b : Int) : (a < b ∧ cmpI a b = -1) ∨ (b < a ∧ cmpI a b = 1) ∨ (a = b ∧ cmpI a b = 0) := by
  unfold cmpI; by_cases h : a < b
  · simp [h]
  · by_cases h2 : b < a
    · simp [h, h2]
    · simp [h, h2]; omega
def stepV (kind k : Int) : Int := if kind = 0 then k + 1 else if kind = 1 then 2 * k + 1 else k
theorem stepV_bd {kind k : Int} (h0 : 0 ≤ k) (h1 : k ≤ 1001) : 0 ≤ stepV kind k ∧ stepV kind k ≤ 2003 := by
  unfold stepV; split
  · omega
  · split <;> omega
def szC (v a w b : Int) : Int := if a = 0 ∧ b = 0 then cmpI v w else cmpI (v * b) (w * a)
abbrev ClaimL := Int × Int × Int
def sizeL (c d : ClaimL) : Int := szC c.2.1 c.2.2 d.2.1 d.2.2
def rankL (c d : ClaimL) : Int := if sizeL c d = 0 then cmpI d.1 c.1 else sizeL c d
abbrev clAt (l : List ClaimL) (k : Nat) : ClaimL := l[k]?.getD (0, 0, 0)
/-- The first greatest one of the first k + 1. -/
def maxTo (f : ClaimL → ClaimL → Int) (l : List ClaimL) : Nat → ClaimL
  | 0 => clAt l 0
  | k + 1 => if 0 < f (clAt l (k + 1)) (maxTo f l k) then clAt l (k + 1) else maxTo f l k
def minTo (f : ClaimL → ClaimL → Int) (l : List ClaimL) : Nat → ClaimL
  | 0 => clAt l 0
  | k + 1 => if f (clAt l (k + 1)) (minTo f l k) < 0 then clAt l (k + 1) else minTo f l k
abbrev at0 (l : List Int) (k : Nat) : Int := l[k]?.getD 0
def nextC (kind : Int) (os ms : List Int) (k : Nat) : ClaimL := ((k : Int), at0 os k, stepV kind (at0 ms k))
def heldC (kind : Int) (os ms : List Int) (k : Nat) : ClaimL := ((k : Int), at0 os k, stepV kind (at0 ms k - 1))
def nextTo (kind : Int) (os ms : List Int) : Nat → List ClaimL
  | 0 => []
  | k + 1 => nextTo kind os ms k ++ [nextC kind os ms k]
def heldTo (kind : Int) (os ms : List Int) : Nat → List ClaimL
  | 0 => []
  | k + 1 => if 0 < at0 ms k then heldTo kind os ms k ++ [heldC kind os ms k] else heldTo kind os ms k
theorem nextTo_len (kind : Int) (os ms : List Int) (n : Nat) : (nextTo kind os ms n).length = n := by
  induction n with
  | zero => rfl
  | succ n ih => simp [nextTo, ih]
theorem heldTo_len (kind : Int) (os ms : List Int) (n : Nat) : (heldTo kind os ms n).length ≤ n := by
  induction n with
  | zero => simp [heldTo]
  | succ n ih => rw [heldTo]; split <;> (try simp) <;> omega
theorem nextTo_at (kind : Int) (os ms : List Int) (n k : Nat) (h : k < n) : clAt (nextTo kind os ms n) k = nextC kind os ms k := by
  induction n with
  | zero => omega
  | succ n ih =>
    rw [nextTo]
    unfold clAt
    by_cases hk : k < n
    · rw [List.getElem?_append_left (by rw [nextTo_len]; exact hk)]; exact ih hk
    · obtain rfl : k = n := by omega
      rw [List.getElem?_append_right (by rw [nextTo_len]; omega), nextTo_len]; simp
theorem heldTo_mem (kind : Int) (os ms : List Int) (n : Nat) (c : ClaimL) : c ∈ heldTo kind os ms n ↔ ∃ k, k < n ∧ 0 < at0 ms k ∧ c = heldC kind os ms k := by
  induction n with
  | zero => simp [heldTo]
  | succ n ih =>
    rw [heldTo]
    split
    · rename_i hm
      rw [List.mem_append, ih]
      constructor
      · rintro (⟨k, h1, h2, h3⟩ | h)
        · exact ⟨k, by omega, h2, h3⟩
        · exact ⟨n, by omega, hm, by simpa using h⟩
      · rintro ⟨k, h1, h2, h3⟩
        by_cases hk : k < n
        · exact .inl ⟨k, hk, h2, h3⟩
        · obtain rfl : k = n := by omega
          exact .inr (by simp [h3])
    · rename_i hm
      rw [ih]
      constructor
      · rintro ⟨k, h1, h2, h3⟩
        exact ⟨k, by omega, h2, h3⟩
      · rintro ⟨k, h1, h2, h3⟩
        by_cases hk : k < n
        · exact ⟨k, hk, h2, h3⟩
        · obtain rfl : k = n := by omega
          exact absurd h2 hm
/-- Claims whose numbers are within the limits. -/
def GoodC (c : ClaimL) : Prop := (0 ≤ c.1 ∧ c.1 ≤ 8) ∧ (1 ≤ c.2.1 ∧ c.2.1 ≤ 1000000) ∧ 0 ≤ c.2.2 ∧ c.2.2 ≤ 3000
theorem prod_bd {v b : Int} (h1 : 1 ≤ v) (h2 : v ≤ 1000000) (h3 : 0 ≤ b) (h4 : b ≤ 3000) : 0 ≤ v * b ∧ v * b ≤ 3000000000 := by
  refine ⟨Int.mul_nonneg (by omega) h3, ?_⟩
  have := Int.mul_le_mul h2 h4 h3 (by omega : (0 : Int) ≤ 1000000)
  omega
theorem nextC_good {kind : Int} {os ms : List Int} (ho : okO os = true) (hm : okMs os ms = true) {k : Nat} (hk : k < os.length) : GoodC (nextC kind os ms k) := by
  obtain ⟨h1, h2, h3⟩ := okO_len ho
  obtain ⟨g1, g2⟩ := okMs_len hm
  have a := allIn_at h3 k hk
  have b : 0 ≤ at0 ms k ∧ at0 ms k ≤ 1000 := allIn_at g2 k (by omega)
  have c := stepV_bd (kind := kind) b.1 (by omega)
  exact ⟨⟨by simp [nextC], by simp only [nextC]; omega⟩, a, c.1, by simp only [nextC]; omega⟩
theorem heldC_good {kind : Int} {os ms : List Int} (ho : okO os = true) (hm : okMs os ms = true) {k : Nat} (hk : k < os.length) (hp : 0 < at0 ms k) : GoodC (heldC kind os ms k) := by
  obtain ⟨h1, h2, h3⟩ := okO_len ho
  obtain ⟨g1, g2⟩ := okMs_len hm
  have a := allIn_at h3 k hk
  have b : 0 ≤ at0 ms k ∧ at0 ms k ≤ 1000 := allIn_at g2 k (by omega)
  have c := stepV_bd (kind := kind) (k := at0 ms k - 1) (by omega) (by omega)
  exact ⟨⟨by simp [heldC], by simp only [heldC]; omega⟩, a, c.1, by simp only [heldC]; omega⟩
theorem nextTo_good {kind : Int} {os ms : List Int} (ho : okO os = true) (hm : okMs os ms = true) (n : Nat) (hn : n ≤ os.length) : ∀ c ∈ nextTo kind os ms n, GoodC c := by
  induction n with
  | zero => intro c hc; cases hc
  | succ n ih =>
    intro c hc
    rw [nextTo, List.mem_append] at hc
    rcases hc with hc | hc
    · exact ih (by omega) c hc
    · simp at hc; subst hc; exact nextC_good ho hm (by omega)
theorem heldTo_good {kind : Int} {os ms : List Int} (ho : okO os = true) (hm : okMs os ms = true) (n : Nat) (hn : n ≤ os.length) : ∀ c ∈ heldTo kind os ms n, GoodC c := by
  intro c hc
  obtain ⟨k, h1, h2, rfl⟩ := (heldTo_mem _ _ _ _ _).1 hc
  exact heldC_good ho hm (by omega) h2
theorem clAt_mem (l : List ClaimL) (k : Nat) (h : k < l.length) : clAt l k ∈ l := by
  unfold clAt; rw [List.getElem?_eq_getElem h]; simp
theorem maxTo_mem (f : ClaimL → ClaimL → Int) (l : List ClaimL) (k : Nat) (h : k < l.length) : maxTo f l k ∈ l := by
  induction k with
  | zero => exact clAt_mem l 0 h
  | succ k ih => rw [maxTo]; split
                 · exact clAt_mem l _ h
                 · exact ih (by omega)
theorem minTo_mem (f : ClaimL → ClaimL → Int) (l : List ClaimL) (k : Nat) (h : k < l.length) : minTo f l k ∈ l := by
  induction k with
  | zero => exact clAt_mem l 0 h
  | succ k ih => rw [minTo]; split
                 · exact clAt_mem l _ h
                 · exact ih (by omega)

/-- The document's own search for the greatest claim. -/
def bestTo (kind : Int) (os ms : List Int) : Nat → Nat
  | 0 => 0
  | k + 1 => if 0 < szC (at0 os (k + 1)) (stepV kind (at0 ms (k + 1))) (at0 os (bestTo kind os ms k)) (stepV kind (at0 ms (bestTo kind os ms k))) then k + 1 else bestTo kind os ms k
def bestL (kind : Int) (os ms : List Int) : Nat := bestTo kind os ms (os.length - 1)
theorem bestTo_le (kind : Int) (os ms : List Int) (k : Nat) : bestTo kind os ms k ≤ k := by
  induction k with
  | zero => simp [bestTo]
  | succ k ih => rw [bestTo]; split <;> omega
theorem bestL_lt {kind : Int} {os ms : List Int} (h : 1 ≤ os.length) : bestL kind os ms < os.length := by
  have := bestTo_le kind os ms (os.length - 1)
  unfold bestL; omega
theorem szC_cases (v a w b : Int) : szC v a w b = -1 ∨ szC v a w b = 1 ∨ szC v a w b = 0 := by
  unfold szC; split
  · rcases cmpI_cases v w with h | h | h <;> simp [h.2]
  · rcases cmpI_cases (v * b) (w * a) with h | h | h <;> simp [h.2]
theorem maxTo_best (kind : Int) (os ms : List Int) (n k : Nat) (h : k < n) : maxTo rankL (nextTo kind os ms n) k = nextC kind os ms (bestTo kind os ms k) := by
  induction k with
  | zero => rw [maxTo, nextTo_at _ _ _ _ _ h]; rfl
  | succ k ih =>
    have hb := bestTo_le kind os ms k
    rw [maxTo, ih (by omega), nextTo_at _ _ _ _ _ h, bestTo]
    have e : rankL (nextC kind os ms (k + 1)) (nextC kind os ms (bestTo kind os ms k)) = if szC (at0 os (k + 1)) (stepV kind (at0 ms (k + 1))) (at0 os (bestTo kind os ms k)) (stepV kind (at0 ms (bestTo kind os ms k))) = 0 then cmpI (bestTo kind os ms k : Int) ((k + 1 : Nat) : Int) else szC (at0 os (k + 1)) (stepV kind (at0 ms (k + 1))) (at0 os (bestTo kind os ms k)) (stepV kind (at0 ms (bestTo kind os ms k))) := rfl
    rw [e]
    generalize szC (at0 os (k + 1)) (stepV kind (at0 ms (k + 1))) (at0 os (bestTo kind os ms k)) (stepV kind (at0 ms (bestTo kind os ms k))) = s
    by_cases hs : s = 0
    · subst hs
      rw [if_pos rfl]
      have : cmpI (bestTo kind os ms k : Int) ((k + 1 : Nat) : Int) = -1 := by unfold cmpI; rw [if_pos (by omega)]
      rw [this]; simp
    · rw [if_neg hs]; split <;> rfl
theorem claimer_best {kind : Int} {os ms : List Int} (h : 1 ≤ os.length) : (maxTo rankL (nextTo kind os ms os.length) (os.length - 1)).1 = (bestL kind os ms : Int) := by
  rw [maxTo_best _ _ _ _ _ (by omega)]; rfl

/-- What is given away: the schools in order, and what each has. -/
def giveL (kind : Int) (os : List Int) : Nat → List Int × List Int
  | 0 => ([], List.replicate os.length 0)
  | n + 1 => ((giveL kind os n).1 ++ [(bestL kind os (giveL kind os n).2 : Int)], (giveL kind os n).2.set (bestL kind os (giveL kind os n).2) (at0 (giveL kind os n).2 (bestL kind os (giveL kind os n).2) + 1))
theorem giveL_len1 (kind : Int) (os : List Int) (n : Nat) : (giveL kind os n).1.length = n := by
  induction n with
  | zero => rfl
  | succ n ih => simp [giveL, ih]
theorem giveL_len2 (kind : Int) (os : List Int) (n : Nat) : (giveL kind os n).2.length = os.length := by
  induction n with
  | zero => simp [giveL]
  | succ n ih => simp [giveL, ih]
theorem at0_set (l : List Int) (c : Nat) (v : Int) (k : Nat) (h : c < l.length) : at0 (l.set c v) k = if k = c then v else at0 l k := by
  unfold at0
  rw [List.getElem?_set]
  by_cases e : c = k
  · subst e; simp [h]
  · rw [if_neg e, if_neg (by omega)]
theorem giveL_bd (kind : Int) (os : List Int) (n k : Nat) : 0 ≤ at0 (giveL kind os n).2 k ∧ at0 (giveL kind os n).2 k ≤ n := by
  induction n with
  | zero =>
    simp only [giveL, at0]
    rw [List.getElem?_replicate]
    split <;> simp
  | succ n ih =>
    rw [giveL]
    dsimp only
    by_cases hc : bestL kind os (giveL kind os n).2 < (giveL kind os n).2.length
    · rw [at0_set _ _ _ _ hc]
      split
      · rename_i e; subst e; omega
      · omega
    · rw [List.set_eq_of_length_le (by omega)]
      omega
theorem all_of_at {lo hi : Int} {l : List Int} (h : ∀ k, k < l.length → lo ≤ at0 l k ∧ at0 l k ≤ hi) : allIn lo hi l = true := by
  refine List.all_eq_true.2 fun x hx => ?_
  obtain ⟨k, hk, rfl⟩ := List.mem_iff_getElem.1 hx
  have := h k hk
  unfold at0 at this
  rw [List.getElem?_eq_getElem hk] at this
  simpa [inW] using this
theorem giveL_ok (kind : Int) (os : List Int) (n : Nat) (h : n ≤ 1000) : okMs os (giveL kind os n).2 = true := by
  unfold okMs
  rw [Bool.and_eq_true]
  exact ⟨by simp [giveL_len2], all_of_at fun k _ => by have := giveL_bd kind os n k; omega⟩
theorem giveL_mem {kind : Int} {os : List Int} (h : 1 ≤ os.length) (n : Nat) : ∀ x ∈ (giveL kind os n).1, 0 ≤ x ∧ x < os.length := by
  induction n with
  | zero => intro x hx; cases hx
  | succ n ih =>
    intro x hx
    rw [giveL, List.mem_append] at hx
    rcases hx with hx | hx
    · exact ih x hx
    · simp at hx; subst hx
      have := bestL_lt (kind := kind) (ms := (giveL kind os n).2) h
      omega
/-- What Divide and Order answer. -/
def divE (os : List Int) (n kind : Int) : Bool := okO os && inW n 0 1000 && okK kind
def divL (os : List Int) (n kind : Int) : List Int := if divE os n kind then (giveL kind os n.toNat).2 else []
def ordL (os : List Int) (n kind : Int) : List Int := if divE os n kind then (giveL kind os n.toNat).1 else []
end Go.Proofs.Ytnjaacmcdkiilaa
