/- What the Go function Solve computes, as plain functions on lists of pairs (rest, modulus). -/
import Derived.Test.YtilolaednbcaoaaGcdM
set_option linter.unusedVariables false
namespace Go.Proofs.Ytilolaednbcaoaa

def badModulus (l : Int × Int) : Bool := decide (l.2 < 1 ∨ 100000 < l.2)
def anyBad : List (Int × Int) → Bool
  | [] => false
  | l :: t => badModulus l || anyBad t
/-- The multiples of the moduli, one after another: 4 as soon as one is too large. -/
def lcmTo : Int → List (Int × Int) → Int
  | _, [] => 0
  | m, l :: t => if 1099511627776 < m * (l.2 / (egcd m l.2 1 0).1) then 4 else lcmTo (m * (l.2 / (egcd m l.2 1 0).1)) t
def checkL (ls : List (Int × Int)) : Int :=
  if 6 < ls.length then 4 else if anyBad ls then 1 else lcmTo 1 ls

/-- Two lines joined: (rest, modulus, found). -/
def joinL (ar am br bm : Int) : Int × Int × Bool :=
  if Int.tmod (br - ar) (egcd am bm 1 0).1 ≠ 0 then (0, 0, false)
  else
    let part := bm / (egcd am bm 1 0).1
    let steps := (Int.tdiv (br - ar) (egcd am bm 1 0).1 % part) * ((egcd am bm 1 0).2 % part) % part
    (ar + steps * am, am * part, true)

def solveFrom : Int → Int → List (Int × Int) → Int × Int × Bool
  | r, m, [] => (r, m, true)
  | r, m, l :: t =>
    if (joinL r m (l.1 % l.2) l.2).2.2 then solveFrom (joinL r m (l.1 % l.2) l.2).1 (joinL r m (l.1 % l.2) l.2).2.1 t else (0, 0, false)
def solveL (ls : List (Int × Int)) : Int × Int × Bool × Int :=
  if checkL ls ≠ 0 then (0, 0, false, checkL ls)
  else ((solveFrom 0 1 ls).1, (solveFrom 0 1 ls).2.1, (solveFrom 0 1 ls).2.2, 0)

theorem anyBad_drop (ls : List (Int × Int)) (k : Nat) (h : k < ls.length) :
    anyBad (ls.drop k) = (badModulus (ls[k]?.getD (0, 0)) || anyBad (ls.drop (k + 1))) := by
  rw [List.drop_eq_getElem_cons h, anyBad]; simp [h]
theorem lcmTo_drop (m : Int) (ls : List (Int × Int)) (k : Nat) (h : k < ls.length) :
    lcmTo m (ls.drop k) = if 1099511627776 < m * ((ls[k]?.getD (0, 0)).2 / (egcd m (ls[k]?.getD (0, 0)).2 1 0).1) then 4 else lcmTo (m * ((ls[k]?.getD (0, 0)).2 / (egcd m (ls[k]?.getD (0, 0)).2 1 0).1)) (ls.drop (k + 1)) := by
  rw [List.drop_eq_getElem_cons h, lcmTo]; simp [h]
theorem solveFrom_drop (r m : Int) (ls : List (Int × Int)) (k : Nat) (h : k < ls.length) :
    solveFrom r m (ls.drop k) = if (joinL r m ((ls[k]?.getD (0, 0)).1 % (ls[k]?.getD (0, 0)).2) (ls[k]?.getD (0, 0)).2).2.2 then solveFrom (joinL r m ((ls[k]?.getD (0, 0)).1 % (ls[k]?.getD (0, 0)).2) (ls[k]?.getD (0, 0)).2).1 (joinL r m ((ls[k]?.getD (0, 0)).1 % (ls[k]?.getD (0, 0)).2) (ls[k]?.getD (0, 0)).2).2.1 (ls.drop (k + 1)) else (0, 0, false) := by
  rw [List.drop_eq_getElem_cons h, solveFrom]; simp [h]
theorem anyBad_false (ls : List (Int × Int)) (h : anyBad ls = false) (i : Nat) (hi : i < ls.length) : 1 ≤ (ls[i]?.getD (0, 0)).2 ∧ (ls[i]?.getD (0, 0)).2 ≤ 100000 := by
  induction ls generalizing i with
  | nil => simp at hi
  | cons x t ih =>
    rw [anyBad, Bool.or_eq_false_iff] at h
    cases i with
    | zero => have := h.1; simp [badModulus] at this; simp; omega
    | succ i => simpa using ih h.2 i (by simpa using hi)

/-- What the greatest common divisor of a multiple and a modulus is good for. -/
theorem egcd_facts (m b : Int) (hm : 1 ≤ m) (hb : 1 ≤ b) : 1 ≤ (egcd m b 1 0).1 ∧ (egcd m b 1 0).1 = Int.gcd m b ∧ -b ≤ (egcd m b 1 0).2 ∧ (egcd m b 1 0).2 ≤ b ∧ ∃ k, m * (egcd m b 1 0).2 = (egcd m b 1 0).1 + k * b :=
  egcd_spec b m b 1 0 m (EInv.start m b hm hb) ⟨0, by omega⟩ ⟨-1, by omega⟩
theorem part_bd (m b : Int) (hm : 1 ≤ m) (hb : 1 ≤ b) : 1 ≤ b / (egcd m b 1 0).1 ∧ b / (egcd m b 1 0).1 ≤ b ∧ (egcd m b 1 0).1 ≤ b := by
  obtain ⟨h1, h2, _⟩ := egcd_facts m b hm hb
  have hd : (egcd m b 1 0).1 ∣ b := by rw [h2]; exact Int.gcd_dvd_right ..
  have hle := Int.le_of_dvd (by omega) hd
  refine ⟨?_, Int.ediv_le_self _ (by omega), hle⟩
  have : (egcd m b 1 0).1 / (egcd m b 1 0).1 ≤ b / (egcd m b 1 0).1 := Int.ediv_le_ediv (by omega) hle
  rwa [Int.ediv_self (by omega)] at this
theorem mul_bd (a b A B : Int) (ha : 1 ≤ a) (hA : a ≤ A) (hb : 1 ≤ b) (hB : b ≤ B) : 1 ≤ a * b ∧ a * b ≤ A * B := by
  have h1 : 1 * 1 ≤ a * b := Int.mul_le_mul ha hb (by omega) (by omega)
  have h2 : a * b ≤ A * B := Int.mul_le_mul hA hB (by omega) (by omega)
  omega

theorem tdiv_bd (x g L H : Int) (hg : 1 ≤ g) (hL : L ≤ x) (hH : x ≤ H) (hL0 : L ≤ 0) (hH0 : 0 ≤ H) : L ≤ Int.tdiv x g ∧ Int.tdiv x g ≤ H := by
  by_cases hx : 0 ≤ x
  · rw [Int.tdiv_eq_ediv_of_nonneg hx]
    have h1 : 0 ≤ x / g := Int.ediv_nonneg hx (by omega)
    have h2 : x / g ≤ x := Int.ediv_le_self _ hx
    omega
  · have e : Int.tdiv x g = -((-x) / g) := by
      rw [← Int.tdiv_eq_ediv_of_nonneg (by omega : 0 ≤ -x), Int.neg_tdiv]; omega
    rw [e]
    have h1 : 0 ≤ (-x) / g := Int.ediv_nonneg (by omega) (by omega)
    have h2 : (-x) / g ≤ -x := Int.ediv_le_self _ (by omega)
    omega
theorem emod_bd (x n : Int) (h : 1 ≤ n) : 0 ≤ x % n ∧ x % n < n := ⟨Int.emod_nonneg _ (by omega), Int.emod_lt_of_pos _ (by omega)⟩
theorem mul_bd0 (a b A B : Int) (ha : 0 ≤ a) (hA : a ≤ A) (hb : 0 ≤ b) (hB : b ≤ B) : 0 ≤ a * b ∧ a * b ≤ A * B :=
  ⟨Int.mul_nonneg ha hb, Int.mul_le_mul hA hB hb (by omega)⟩

theorem joinL_bd (ar am br bm : Int) (h1 : 1 ≤ am) (h3 : 1 ≤ bm) (h5 : 0 ≤ ar) (h6 : ar < am) (hj : (joinL ar am br bm).2.2 = true) :
    0 ≤ (joinL ar am br bm).1 ∧ (joinL ar am br bm).1 < (joinL ar am br bm).2.1 ∧ (joinL ar am br bm).2.1 = am * (bm / (egcd am bm 1 0).1) := by
  have hp := (part_bd am bm h1 h3).1
  unfold joinL at hj ⊢
  split
  · rename_i h; rw [if_pos h] at hj; simp at hj
  · dsimp only
    have hs := emod_bd ((Int.tdiv (br - ar) (egcd am bm 1 0).1 % (bm / (egcd am bm 1 0).1)) * ((egcd am bm 1 0).2 % (bm / (egcd am bm 1 0).1))) _ hp
    generalize (Int.tdiv (br - ar) (egcd am bm 1 0).1 % (bm / (egcd am bm 1 0).1)) * ((egcd am bm 1 0).2 % (bm / (egcd am bm 1 0).1)) % (bm / (egcd am bm 1 0).1) = s at *
    generalize bm / (egcd am bm 1 0).1 = p at *
    have e1 : 0 ≤ s * am := Int.mul_nonneg hs.1 (by omega)
    have e2 : s * am ≤ (p - 1) * am := Int.mul_le_mul_of_nonneg_right (by omega) (by omega)
    rw [Int.sub_mul, Int.one_mul, Int.mul_comm p am] at e2
    exact ⟨by omega, by omega, rfl⟩
theorem joinL_no (ar am br bm : Int) (hj : (joinL ar am br bm).2.2 = false) : joinL ar am br bm = (0, 0, false) := by
  unfold joinL at hj ⊢
  split
  · rfl
  · rename_i h; rw [if_neg h] at hj; simp at hj
theorem lcmTo_zero (m : Int) (ls : List (Int × Int)) (k : Nat) (h : k < ls.length) (hz : lcmTo m (ls.drop k) = 0) :
    m * ((ls[k]?.getD (0, 0)).2 / (egcd m (ls[k]?.getD (0, 0)).2 1 0).1) ≤ 1099511627776 ∧ lcmTo (m * ((ls[k]?.getD (0, 0)).2 / (egcd m (ls[k]?.getD (0, 0)).2 1 0).1)) (ls.drop (k + 1)) = 0 := by
  rw [lcmTo_drop m ls k h] at hz
  split at hz
  · simp at hz
  · exact ⟨by omega, hz⟩
theorem checkL_zero (ls : List (Int × Int)) (h : checkL ls = 0) : ls.length ≤ 6 ∧ anyBad ls = false ∧ lcmTo 1 ls = 0 := by
  unfold checkL at h
  split at h
  · simp at h
  · split at h
    · simp at h
    · rename_i h1 h2; exact ⟨by omega, by simpa using h2, h⟩

theorem tmod_add_emod (x n : Int) (h : 1 ≤ n) : (Int.tmod x n + n) % n = x % n := by
  rw [Int.add_emod_right]
  have h1 := Int.mul_tdiv_add_tmod x n
  have h2 : Int.tmod x n = x + n * (-(x.tdiv n)) := by rw [Int.mul_neg]; omega
  rw [h2, Int.add_mul_emod_self_left]

theorem tmod_bd (x n : Int) (h : 1 ≤ n) : -n < Int.tmod x n ∧ Int.tmod x n < n := by
  have h1 := Int.lt_tmod_of_pos x (by omega : 0 < n)
  have h2 := Int.tmod_lt_of_pos x (by omega : 0 < n)
  exact ⟨h1, h2⟩

end Go.Proofs.Ytilolaednbcaoaa
