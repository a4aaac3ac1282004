/- All orders of n things, as the document makes them. Plain mathematics. -/
set_option linter.unusedVariables false
namespace Go.Proofs.Ytbffdpcogfmomaa

def rZ (T : List (List Int)) (i : Nat) : List Int := T[i]?.getD []
theorem rZ_mem {T : List (List Int)} {i : Nat} (h : i < T.length) : rZ T i ∈ T := by simp [rZ, h]
theorem mem_rZ {T : List (List Int)} {r : List Int} (h : r ∈ T) : ∃ i, i < T.length ∧ rZ T i = r := by
  obtain ⟨k, hk, he⟩ := List.getElem_of_mem h
  exact ⟨k, hk, by simp [rZ, hk, he]⟩
theorem rZ_app (T : List (List Int)) (r : List Int) (i : Nat) : rZ (T ++ [r]) i = if i < T.length then rZ T i else if i = T.length then r else [] := by
  unfold rZ
  by_cases h : i < T.length
  · rw [if_pos h, List.getElem?_append_left h]
  · rw [if_neg h, List.getElem?_append_right (by omega)]
    by_cases e : i = T.length
    · subst e; simp
    · rw [if_neg e]
      have : [r][i - T.length]? = none := by simp; omega
      rw [this]; rfl
def ioz (n : Nat) : List Int := (List.range n).map fun (i : Nat) => (i : Int)
theorem ioz_len (n : Nat) : (ioz n).length = n := by simp [ioz]
theorem ioz_succ (n : Nat) : ioz (n + 1) = ioz n ++ [(n : Int)] := by simp [ioz, List.range_succ]
theorem ioz_mem (n : Nat) (x : Int) : x ∈ ioz n ↔ 0 ≤ x ∧ x < n := by
  simp only [ioz, List.mem_map, List.mem_range]
  constructor
  · rintro ⟨a, h, rfl⟩; omega
  · intro h; exact ⟨x.toNat, by omega, by omega⟩
/-- The number k put into o at a place. -/
def inz (o : List Int) (k : Int) (a : Nat) : List Int := o.take a ++ [k] ++ o.drop a
def inzTo (o : List Int) (k : Int) (m : Nat) : List (List Int) := (List.range m).map (inz o k)
def inzAll (os : List (List Int)) (k : Int) : List (List Int) := os.flatMap fun o => inzTo o k (o.length + 1)
def ordz : Nat → List (List Int)
  | 0 => [[]]
  | n + 1 => inzAll (ordz n) n
theorem inzTo_succ (o : List Int) (k : Int) (m : Nat) : inzTo o k (m + 1) = inzTo o k m ++ [inz o k m] := by simp [inzTo, List.range_succ]
theorem inz_perm (o : List Int) (k : Int) (m : Nat) : (inz o k m).Perm (k :: o) := by
  unfold inz
  rw [List.append_assoc, List.singleton_append]
  refine List.perm_middle.trans ?_
  rw [List.take_append_drop]
theorem inz_len (o : List Int) (k : Int) (m : Nat) : (inz o k m).length = o.length + 1 := by
  have := (inz_perm o k m).length_eq
  simpa using this
theorem ordz_mem (n : Nat) : ∀ o, o ∈ ordz n ↔ o.Perm (ioz n) := by
  induction n with
  | zero =>
    intro o
    simp only [ordz, List.mem_singleton]
    constructor
    · rintro rfl; exact List.Perm.refl _
    · intro h; exact List.eq_nil_of_length_eq_zero (by rw [h.length_eq]; rfl)
  | succ n ih =>
    intro o
    simp only [ordz, inzAll, List.mem_flatMap, inzTo, List.mem_map, List.mem_range]
    constructor
    · rintro ⟨p, hp, m, hm, rfl⟩
      rw [ioz_succ]
      exact (inz_perm p n m).trans ((((ih p).1 hp).cons _).trans (List.perm_append_singleton _ _).symm)
    · intro h
      have hm : (n : Int) ∈ o := h.mem_iff.2 ((ioz_mem (n + 1) n).2 ⟨by omega, by omega⟩)
      obtain ⟨a, b, rfl⟩ := List.append_of_mem hm
      refine ⟨a ++ b, (ih _).2 ?_, a.length, by simp; omega, by simp [inz]⟩
      have h1 : (a ++ (n : Int) :: b).Perm ((n : Int) :: ioz n) := by
        refine List.Perm.trans h ?_
        rw [ioz_succ]; exact List.perm_append_singleton _ _
      exact (List.perm_cons _).1 (List.perm_middle.symm.trans h1)
theorem ordz_len (n : Nat) : ∀ o ∈ ordz n, o.length = n := fun o h => by rw [((ordz_mem n o).1 h).length_eq, ioz_len]
theorem ordz_in (n : Nat) : ∀ o ∈ ordz n, ∀ x ∈ o, 0 ≤ x ∧ x < n := fun o h x hx => (ioz_mem n x).1 (((ordz_mem n o).1 h).mem_iff.1 hx)
def fz : Nat → Nat
  | 0 => 1
  | n + 1 => fz n * (n + 1)
theorem inzAll_card (os : List (List Int)) (k : Int) (n : Nat) (h : ∀ o ∈ os, o.length = n) : (inzAll os k).length = os.length * (n + 1) := by
  induction os with
  | nil => simp [inzAll]
  | cons o os ih =>
    have h1 := ih (fun p hp => h p (List.mem_cons_of_mem _ hp))
    have h2 := h o (List.mem_cons_self)
    simp only [inzAll, List.flatMap_cons, List.length_append] at h1 ⊢
    rw [h1]
    simp [inzTo, h2, Nat.succ_mul]
    omega
theorem ordz_card : ∀ n, (ordz n).length = fz n
  | 0 => rfl
  | n + 1 => by rw [ordz, inzAll_card _ _ n (ordz_len n), ordz_card n]; rfl
theorem fz_le : ∀ n, n ≤ 7 → fz n ≤ 5040 := by decide
theorem fz_pos : ∀ n, 1 ≤ fz n
  | 0 => by decide
  | n + 1 => by
    have := fz_pos n
    show 1 ≤ fz n * (n + 1)
    exact Nat.mul_pos this (by omega)
/-- What is made when i orders are done, and a places of the next one. -/
def inzPre (os : List (List Int)) (k : Int) (i a : Nat) : List (List Int) := inzAll (os.take i) k ++ inzTo (rZ os i) k a
theorem inzPre_zero (os : List (List Int)) (k : Int) : inzPre os k 0 0 = [] := by simp [inzPre, inzAll, inzTo]
theorem inzPre_a (os : List (List Int)) (k : Int) (i a : Nat) : inzPre os k i (a + 1) = inzPre os k i a ++ [inz (rZ os i) k a] := by
  unfold inzPre
  rw [inzTo_succ, List.append_assoc]
theorem inzPre_i (os : List (List Int)) (k : Int) (i : Nat) (hi : i < os.length) : inzPre os k i ((rZ os i).length + 1) = inzPre os k (i + 1) 0 := by
  unfold inzPre inzAll
  rw [List.take_succ_eq_append_getElem hi, List.flatMap_append]
  simp [rZ, hi, inzTo]
theorem inzPre_end (os : List (List Int)) (k : Int) : inzPre os k os.length 0 = inzAll os k := by simp [inzPre, inzTo]
theorem inzPre_len (os : List (List Int)) (k : Int) (n : Nat) (h : ∀ o ∈ os, o.length = n) (i a : Nat) (hi : i < os.length) (ha : a ≤ n + 1) : (inzPre os k i a).length ≤ os.length * (n + 1) := by
  unfold inzPre
  rw [List.length_append, inzAll_card _ _ n (fun o ho => h o (List.mem_of_mem_take ho))]
  have h1 : (os.take i).length = i := by rw [List.length_take]; omega
  have h2 : (inzTo (rZ os i) k a).length = a := by simp [inzTo]
  rw [h1, h2]
  have h3 : (i + 1) * (n + 1) ≤ os.length * (n + 1) := Nat.mul_le_mul_right _ hi
  rw [Nat.succ_mul] at h3
  omega
end Go.Proofs.Ytbffdpcogfmomaa
