/- All tours, as the document makes them. Plain mathematics. -/
import Derived.Test.YtbffdpcogfmomaaOrdersM
import Derived.Test.YtbffdpcogfmomaaVaM
set_option linter.unusedVariables false
namespace Go.Proofs.Ytbffdpcogfmomaa

def incR (r : List Int) : List Int := r.map (· + 1)
/-- The first k elements are raised. -/
def incK (r : List Int) (k : Nat) : List Int := incR (r.take k) ++ r.drop k
theorem incK_zero (r : List Int) : incK r 0 = r := by simp [incK, incR]
theorem incK_all (r : List Int) : incK r r.length = incR r := by simp [incK]
theorem incK_len (r : List Int) (k : Nat) : (incK r k).length = r.length := by simp [incK, incR]; omega
theorem incK_at (r : List Int) (k : Nat) (h : k < r.length) : (incK r k)[k]?.getD 0 = r[k]?.getD 0 := by
  unfold incK incR
  rw [List.getElem?_append_right (by simp; omega)]
  simp [List.length_take, Nat.min_eq_left (Nat.le_of_lt h)]
theorem incK_succ (r : List Int) (k : Nat) (h : k < r.length) : (incK r k).set k (r[k]?.getD 0 + 1) = incK r (k + 1) := by
  apply List.ext_getElem?
  intro j
  have hl := incK_len r k
  rcases Nat.lt_trichotomy j k with e | e | e
  · rw [List.getElem?_set_ne (by omega)]
    unfold incK incR
    rw [List.getElem?_append_left (by simp; omega), List.getElem?_append_left (by simp; omega), List.getElem?_map, List.getElem?_map, List.getElem?_take_of_lt (by omega), List.getElem?_take_of_lt (by omega)]
  · subst e
    rw [List.getElem?_set_self (by omega)]
    unfold incK incR
    rw [List.getElem?_append_left (by simp; omega), List.getElem?_map, List.getElem?_take_of_lt (by omega)]
    simp [h]
  · rw [List.getElem?_set_ne (by omega)]
    unfold incK incR
    rw [List.getElem?_append_right (by simp; omega), List.getElem?_append_right (by simp; omega)]
    simp only [List.length_map, List.length_take, List.getElem?_drop]
    congr 1
    omega
/-- A table in which the rows before i are raised, and k elements of the row i. -/
structure IncT (os T : List (List Int)) (i k : Nat) : Prop where
  len : T.length = os.length
  row : ∀ j, j < os.length → rZ T j = if j < i then incR (rZ os j) else if j = i then incK (rZ os j) k else rZ os j
theorem IncT.zero (os : List (List Int)) : IncT os os 0 0 := ⟨rfl, fun j hj => by
  rw [if_neg (by omega)]
  by_cases h : j = 0
  · rw [if_pos h, incK_zero]
  · rw [if_neg h]⟩
theorem rZ_set (T : List (List Int)) (i : Nat) (r : List Int) (j : Nat) (hi : i < T.length) : rZ (T.set i r) j = if j = i then r else rZ T j := by
  unfold rZ
  by_cases h : j = i
  · subst h; rw [if_pos rfl, List.getElem?_set_self hi]; rfl
  · rw [if_neg h, List.getElem?_set_ne (by omega)]
theorem IncT.step {os T : List (List Int)} {i k : Nat} (h : IncT os T i k) (hi : i < os.length) (hk : k < (rZ os i).length) : IncT os (T.set i ((rZ T i).set k ((rZ os i)[k]?.getD 0 + 1))) i (k + 1) := by
  refine ⟨by rw [List.length_set]; exact h.len, fun j hj => ?_⟩
  rw [rZ_set _ _ _ _ (by rw [h.len]; exact hi)]
  have hr := h.row i hi
  rw [if_neg (by omega), if_pos rfl] at hr
  by_cases e : j = i
  · subst e
    rw [if_pos rfl, if_neg (by omega), if_pos rfl, hr, incK_succ _ _ hk]
  · rw [if_neg e, h.row j hj]
    simp only [if_neg e]
theorem IncT.next {os T : List (List Int)} {i : Nat} (h : IncT os T i (rZ os i).length) : IncT os T (i + 1) 0 := by
  refine ⟨h.len, fun j hj => ?_⟩
  rw [h.row j hj]
  by_cases e : j < i
  · rw [if_pos e, if_pos (by omega)]
  · rw [if_neg e]
    by_cases e2 : j = i
    · subst e2; rw [if_pos rfl, if_pos (by omega), incK_all]
    · rw [if_neg e2, if_neg (by omega)]
      by_cases e3 : j = i + 1
      · rw [if_pos e3, incK_zero]
      · rw [if_neg e3]
/-- All tours. -/
def toursZ (n : Nat) : List (List Int) := (ordz (n - 1)).map incR
theorem IncT.end_ {n : Nat} {T : List (List Int)} (h : IncT (ordz (n - 1)) T (ordz (n - 1)).length 0) : T = toursZ n := by
  apply List.ext_getElem?
  intro j
  rcases Nat.lt_or_ge j (ordz (n - 1)).length with e | e
  · have h1 := h.row j e
    rw [if_pos e] at h1
    have h2 : T[j]? = some (rZ T j) := by simp [rZ, h.len, e]
    have h3 : (toursZ n)[j]? = some (incR (rZ (ordz (n - 1)) j)) := by simp [toursZ, rZ, e]
    rw [h2, h3, h1]
  · rw [List.getElem?_eq_none (by rw [h.len]; exact e), List.getElem?_eq_none (by simp [toursZ]; exact e)]
theorem IncT.at_ {os T : List (List Int)} {i k : Nat} (h : IncT os T i k) (hi : i < os.length) (hk : k < (rZ os i).length) : (rZ T i)[k]?.getD 0 = (rZ os i)[k]?.getD 0 := by
  rw [h.row i hi, if_neg (by omega), if_pos rfl]
  exact incK_at _ _ hk
theorem IncT.rlen {os T : List (List Int)} {i k : Nat} (h : IncT os T i k) (j : Nat) (hj : j < os.length) : (rZ T j).length = (rZ os j).length := by
  rw [h.row j hj]
  split
  · simp [incR]
  · split
    · rw [incK_len]
    · rfl
theorem stops_inc (n : Nat) : stopsL n = incR (ioz (n - 1)) := by simp [stopsL, incR, ioz, Function.comp_def]
theorem perm_inc {a b : List Int} (h : (incR a).Perm (incR b)) : a.Perm b := by
  have := h.map (· - 1)
  simpa [incR, Function.comp_def] using this
theorem toursZ_mem (n : Nat) (o : List Int) : o ∈ toursZ n ↔ IsTour o n := by
  unfold toursZ IsTour
  rw [List.mem_map, stops_inc]
  constructor
  · rintro ⟨p, hp, rfl⟩
    exact ((ordz_mem _ p).1 hp).map _
  · intro h
    refine ⟨o.map (· - 1), (ordz_mem _ _).2 ?_, by simp [incR, Function.comp_def]⟩
    have h2 := h.map (· - 1)
    simpa [incR, Function.comp_def] using h2
theorem toursZ_len (n : Nat) : (toursZ n).length = fz (n - 1) := by simp [toursZ, ordz_card]
theorem toursZ_pos (n : Nat) : 1 ≤ (toursZ n).length := by rw [toursZ_len]; exact fz_pos _
end Go.Proofs.Ytbffdpcogfmomaa
