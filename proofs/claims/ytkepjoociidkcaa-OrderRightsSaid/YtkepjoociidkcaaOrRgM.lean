/- Rights brought together: plain mathematics. -/
import Derived.Test.YtkepjoociidkcaaOrSpM
import Derived.Test.YtkepjoociidkcaaOrRtM
import Derived.Test.YtkepjoociidkcaaOrKidM
set_option linter.unusedVariables false
namespace Go.Proofs.Ytkepjoociidkcaa

/-- The days on which a child is free. -/
def gFree (r : List Rgt) (c d : Int) : Option Int := if freeL c d r = true then some 0 else none
theorem gFree_zero (r : List Rgt) (c : Int) : ∀ d m, gFree r c d = some m → m = 0 := by
  intro d m h
  unfold gFree at h
  split at h
  · cases h; rfl
  · cases h
theorem gFree_some (r : List Rgt) (c d : Int) : (gFree r c d).isSome = freeL c d r := by
  unfold gFree
  cases freeL c d r <;> rfl
def toR (c : Int) (s : List Spn) : List Rgt := s.map (fun x => ⟨c, x.f, x.t⟩)
/-- One more free day, by the document. -/
def addR (c : Int) (s : List Rgt) (d : Int) : List Rgt :=
  if 0 < s.length ∧ (gAt s (s.length - 1)).t = d then s.set (s.length - 1) ⟨(gAt s (s.length - 1)).c, (gAt s (s.length - 1)).f, (gAt s (s.length - 1)).t + 1⟩ else s ++ [⟨c, d, d + 1⟩]
def rgTo (r : List Rgt) (c : Int) : Nat → List Rgt
  | 0 => []
  | k + 1 => if freeL c (k : Int) r = true then addR c (rgTo r c k) (k : Int) else rgTo r c k
theorem gAt_toR (c : Int) (s : List Spn) (i : Nat) (h : i < s.length) : gAt (toR c s) i = ⟨c, (sAt s i).f, (sAt s i).t⟩ := by
  unfold gAt toR sAt
  rw [List.getElem?_map, List.getElem?_eq_getElem h]
  rfl
theorem addR_toR (c : Int) (s : List Spn) (d : Int) (hz : ∀ x ∈ s, x.m = 0) : addR c (toR c s) d = toR c (addDay s d 0) := by
  have hl : (toR c s).length = s.length := by simp [toR]
  unfold addR addDay
  by_cases h0 : 0 < s.length
  · have hm : (sAt s (s.length - 1)).m = 0 := by
      apply hz
      unfold sAt
      rw [List.getElem?_eq_getElem (by omega)]
      simp
    rw [hl, gAt_toR c s _ (by omega)]
    by_cases ht : (sAt s (s.length - 1)).t = d
    · rw [if_pos ⟨h0, ht⟩, if_pos ⟨h0, ht, hm⟩]
      unfold toR
      rw [List.map_set]
    · rw [if_neg (fun h => ht h.2), if_neg (fun h => ht h.2.1)]
      simp [toR]
  · rw [hl, if_neg (fun h => h0 h.1), if_neg (fun h => h0 h.1)]
    simp [toR]
theorem rgTo_eq (r : List Rgt) (c : Int) (k : Nat) : rgTo r c k = toR c (spTo (gFree r c) k) := by
  induction k with
  | zero => rfl
  | succ k ih =>
    have hsp : spTo (gFree r c) (k + 1) = match gFree r c (k : Int) with | none => spTo (gFree r c) k | some m => addDay (spTo (gFree r c) k) (k : Int) m := rfl
    show (if freeL c (k : Int) r = true then addR c (rgTo r c k) (k : Int) else rgTo r c k) = _
    rw [hsp, ih]
    by_cases h : freeL c (k : Int) r = true
    · rw [if_pos h, show gFree r c (k : Int) = some 0 from if_pos h]
      exact addR_toR c _ _ (spTo_runs _ 0 (gFree_zero r c) k).2.1
    · rw [if_neg h, show gFree r c (k : Int) = none from if_neg h]
theorem freeL_iff (c d : Int) (r : List Rgt) : freeL c d r = true ↔ ∃ x ∈ r, x.c = c ∧ x.f ≤ d ∧ d < x.t := by
  induction r with
  | nil => simp [freeL]
  | cons y t ih =>
    show (hasB y c d || freeL c d t) = true ↔ _
    rw [Bool.or_eq_true, ih]
    simp [hasB]
/-- By the rights brought together a child is free on the same days. -/
theorem free_same (r : List Rgt) (c d : Int) (h0 : 0 ≤ d) (h1 : d ≤ 999) : freeL c d (toR c (spTo (gFree r c) 1000)) = freeL c d r := by
  rw [Bool.eq_iff_iff, freeL_iff]
  have hd := spTo_day (gFree r c) 1000 d h0 (by omega) 0
  have hg : gFree r c d = some 0 ↔ freeL c d r = true := by
    unfold gFree
    cases freeL c d r <;> simp
  rw [← hg, ← hd]
  have hz := (spTo_runs (gFree r c) 0 (gFree_zero r c) 1000).2.1
  constructor
  · rintro ⟨x, hx, h2, h3, h4⟩
    unfold toR at hx
    rw [List.mem_map] at hx
    obtain ⟨y, hy, rfl⟩ := hx
    exact ⟨y, hy, h3, h4, hz y hy⟩
  · rintro ⟨y, hy, h3, h4, h5⟩
    exact ⟨⟨c, y.f, y.t⟩, by unfold toR; rw [List.mem_map]; exact ⟨y, hy, rfl⟩, rfl, h3, h4⟩
/-- How many rights begin below a day. -/
def begins (k : Nat) : List Rgt → Nat
  | [] => 0
  | x :: r => begins k r + if x.f < (k : Int) then 1 else 0
theorem begins_le (k : Nat) (r : List Rgt) : begins k r ≤ r.length := by
  induction r with
  | nil => exact Nat.le_refl _
  | cons x t ih => show begins k t + (if x.f < (k : Int) then 1 else 0) ≤ t.length + 1; split <;> omega
theorem begins_mono (k : Nat) (r : List Rgt) : begins k r ≤ begins (k + 1) r := by
  induction r with
  | nil => exact Nat.le_refl _
  | cons x t ih =>
    show begins k t + (if x.f < (k : Int) then 1 else 0) ≤ begins (k + 1) t + (if x.f < ((k + 1 : Nat) : Int) then 1 else 0)
    by_cases h : x.f < (k : Int)
    · rw [if_pos h, if_pos (by omega)]; omega
    · rw [if_neg h]; omega
theorem begins_new (k : Nat) (r : List Rgt) (h : ∃ x ∈ r, x.f = (k : Int)) : begins k r + 1 ≤ begins (k + 1) r := by
  induction r with
  | nil => obtain ⟨x, hx, _⟩ := h; simp at hx
  | cons y t ih =>
    show begins k t + (if y.f < (k : Int) then 1 else 0) + 1 ≤ begins (k + 1) t + (if y.f < ((k + 1 : Nat) : Int) then 1 else 0)
    by_cases hy : y.f = (k : Int)
    · have := begins_mono k t
      rw [if_neg (by omega), if_pos (by omega)]
      omega
    · have h2 : ∃ x ∈ t, x.f = (k : Int) := by
        obtain ⟨x, hx, hxf⟩ := h
        rcases List.mem_cons.1 hx with rfl | hx
        · exact absurd hxf hy
        · exact ⟨x, hx, hxf⟩
      have := ih h2
      by_cases h3 : y.f < (k : Int)
      · rw [if_pos h3, if_pos (by omega)]; omega
      · rw [if_neg h3]; omega
theorem runs_le (r : List Rgt) (c : Int) (hr : ∀ x ∈ r, 0 ≤ x.f) (k : Nat) : runsTo (gFree r c) k ≤ begins k r := by
  induction k with
  | zero => exact Nat.zero_le _
  | succ k ih =>
    show runsTo (gFree r c) k + (if (gFree r c (k : Int)).isSome = true ∧ ¬ (0 < k ∧ (gFree r c ((k : Int) - 1)).isSome = true) then 1 else 0) ≤ _
    split
    · rename_i h
      obtain ⟨h1, h2⟩ := h
      rw [gFree_some] at h1 h2
      rw [freeL_iff] at h1
      obtain ⟨x, hx, hc, hf, ht⟩ := h1
      have : begins k r + 1 ≤ begins (k + 1) r := begins_new k r ⟨x, hx, by
        by_cases hk : 0 < k
        · have hn : ¬ freeL c ((k : Int) - 1) r = true := fun h => h2 ⟨hk, h⟩
          rw [freeL_iff] at hn
          by_cases he : x.f = (k : Int)
          · exact he
          · exact absurd ⟨x, hx, hc, by omega, by omega⟩ hn
        · have := hr x hx; omega⟩
      omega
    · have := begins_mono k r; omega
theorem rights_len (r : List Rgt) (c : Int) (hr : ∀ x ∈ r, 0 ≤ x.f) (k : Nat) : (spTo (gFree r c) k).length ≤ r.length := by
  rw [(spTo_runs (gFree r c) 0 (gFree_zero r c) k).1]
  exact Nat.le_trans (runs_le r c hr k) (begins_le k r)
/-- Rights brought together are rights. -/
theorem rights_valid (r : List Rgt) (c : Int) (h : rightsE r = 0) (hc : inI c 0 99 = true) : rightsE (toR c (spTo (gFree r c) 1000)) = 0 := by
  obtain ⟨h60, hok⟩ := rightsE_ok h
  have hl := rights_len r c (fun x hx => ((rightB_iff.1 (okR_mem hok x hx)).2.1)) 1000
  have hb := spTo_bd (gFree r c) 1000
  have hall : ∀ s : List Spn, (∀ x ∈ s, 0 ≤ x.f ∧ x.f < x.t ∧ x.t ≤ ((1000 : Nat) : Int)) → okR (toR c s) = true := by
    intro s hs
    induction s with
    | nil => rfl
    | cons y t ih =>
      show (rightB ⟨c, y.f, y.t⟩ && okR (toR c t)) = true
      have hy := hs y (by simp)
      rw [ih (fun x hx => hs x (by simp [hx])), Bool.and_true]
      rw [rightB_iff]
      exact ⟨inI_iff.1 hc, hy.1, hy.2.1, by dsimp only; omega⟩
  unfold rightsE
  rw [if_neg (by simp [toR]; omega), if_pos (hall _ hb)]
end Go.Proofs.Ytkepjoociidkcaa
