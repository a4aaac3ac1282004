/- The document's own answer for remainders, as plain functions; it is the program's. -/
import Derived.Test.YtijfcifoemndeabSolveM
set_option linter.unusedVariables false
namespace Go.Proofs.Ytijfcifoemndeab

/-- The first of a, a + st, .. with the remainder r by m, of n + 1 tries. -/
def rtry (st m r : Int) : Nat → Int → Option Int
  | 0, a => if a % m = r then some a else none
  | n + 1, a => if a % m = r then some a else rtry st m r n (a + st)
def rstepTo (st m : Int) : Int := st * (m / (egcd st m 1 0).1)
def rsolveFrom : Int → Int → List (Int × Int) → Int × Int × Bool
  | a, st, [] => (a, st, true)
  | a, st, l :: t => match rtry st l.2 (l.1 % l.2) l.2.toNat a with
    | none => (0, 0, false)
    | some v => rsolveFrom (v % rstepTo st l.2) (rstepTo st l.2) t
def lcmAll : Int → List (Int × Int) → Int
  | m, [] => m
  | m, l :: t => lcmAll (rstepTo m l.2) t
def rsolveL (ls : List (Int × Int)) : Int × Int × Bool × Int :=
  if checkL ls ≠ 0 then (0, 0, false, checkL ls)
  else ((rsolveFrom 0 1 ls).1, (rsolveFrom 0 1 ls).2.1, (rsolveFrom 0 1 ls).2.2, 0)

theorem rstepTo_div (st m : Int) (h1 : 1 ≤ st) (h2 : 1 ≤ m) : st / (Int.gcd st m : Int) * m = rstepTo st m := by
  unfold rstepTo
  obtain ⟨g1, g2, _⟩ := egcd_facts st m h1 h2
  rw [g2]
  obtain ⟨x, hx⟩ : (Int.gcd st m : Int) ∣ st := Int.gcd_dvd_left ..
  obtain ⟨y, hy⟩ : (Int.gcd st m : Int) ∣ m := Int.gcd_dvd_right ..
  have hg : (Int.gcd st m : Int) ≠ 0 := by omega
  have e1 : st / (Int.gcd st m : Int) = x := Int.ediv_eq_of_eq_mul_right hg hx
  have e2 : m / (Int.gcd st m : Int) = y := Int.ediv_eq_of_eq_mul_right hg hy
  rw [e1, e2]
  have e3 : x * m = x * ((Int.gcd st m : Int) * y) := congrArg (x * ·) hy
  have e4 : st * y = (Int.gcd st m : Int) * x * y := congrArg (· * y) hx
  rw [e3, e4, ← Int.mul_assoc, Int.mul_comm x]

theorem rstepTo_bd (st m : Int) (h1 : 1 ≤ st) (h2 : 1 ≤ m) : st ≤ rstepTo st m ∧ 1 ≤ rstepTo st m := by
  have hp := (part_bd st m h1 h2).1
  have := (mul_bd st (m / (egcd st m 1 0).1) st (m / (egcd st m 1 0).1) h1 (by omega) hp (by omega)).1
  have e : st * 1 ≤ st * (m / (egcd st m 1 0).1) := Int.mul_le_mul_of_nonneg_left hp (by omega)
  unfold rstepTo
  omega

theorem rtry_spec (st m r : Int) (n : Nat) (a : Int) :
    (∀ v, rtry st m r n a = some v ↔ ∃ t : Nat, t ≤ n ∧ v = a + t * st ∧ v % m = r ∧ ∀ s : Nat, s < t → (a + s * st) % m ≠ r) := by
  induction n generalizing a with
  | zero =>
    intro v
    unfold rtry
    constructor
    · intro h
      split at h
      · rename_i hr
        cases h
        exact ⟨0, by omega, by simp, hr, fun s hs => by omega⟩
      · cases h
    · rintro ⟨t, ht, hv, hr, _⟩
      obtain rfl : t = 0 := by omega
      have : v = a := by simpa using hv
      subst this
      rw [if_pos hr]
  | succ n ih =>
    intro v
    unfold rtry
    constructor
    · intro h
      split at h
      · rename_i hr
        cases h
        exact ⟨0, by omega, by simp, hr, fun s hs => by omega⟩
      · rename_i hr
        obtain ⟨t, ht, hv, hr2, hs⟩ := (ih (a + st) v).1 h
        refine ⟨t + 1, by omega, ?_, hr2, fun s hlt => ?_⟩
        · rw [hv]; push_cast; rw [Int.add_mul]; omega
        · rcases s with _ | s
          · simpa using hr
          · have := hs s (by omega)
            intro e
            apply this
            rw [← e]
            congr 1
            push_cast; rw [Int.add_mul]; omega
    · rintro ⟨t, ht, hv, hr, hs⟩
      rcases t with _ | t
      · have : v = a := by simpa using hv
        subst this
        rw [if_pos hr]
      · have h0 := hs 0 (by omega)
        rw [if_neg (by simpa using h0)]
        refine (ih (a + st) v).2 ⟨t, by omega, ?_, hr, fun s hlt => ?_⟩
        · rw [hv]; push_cast; rw [Int.add_mul]; omega
        · have := hs (s + 1) (by omega)
          intro e
          apply this
          rw [← e]
          congr 1
          push_cast; rw [Int.add_mul]; omega

theorem rtry_none (st m r : Int) (n : Nat) (a : Int) (h : rtry st m r n a = none) : ∀ t : Nat, t ≤ n → (a + t * st) % m ≠ r := by
  induction n generalizing a with
  | zero =>
    intro t ht
    obtain rfl : t = 0 := by omega
    unfold rtry at h
    intro e
    rw [if_pos (by simpa using e)] at h
    cases h
  | succ n ih =>
    unfold rtry at h
    split at h
    · cases h
    · rename_i hr
      intro t ht
      rcases t with _ | t
      · simpa using hr
      · have := ih (a + st) h t (by omega)
        intro e
        apply this
        rw [← e]
        congr 1
        push_cast; rw [Int.add_mul]; omega

theorem rtry_lt (st m r : Int) (n : Nat) (a : Int) (hst : 0 ≤ st) (ha : 0 ≤ a) (v : Int) (h : rtry st m r n a = some v) : 0 ≤ v ∧ v ≤ a + n * st := by
  obtain ⟨t, ht, hv, _⟩ := (rtry_spec st m r n a v).1 h
  have e : (t : Int) * st ≤ n * st := Int.mul_le_mul_of_nonneg_right (by omega) hst
  have e0 : 0 ≤ (t : Int) * st := Int.mul_nonneg (by omega) hst
  omega

/-- m divides k * st exactly if m / g divides k. -/
theorem part_dvd (st m k : Int) (h1 : 1 ≤ st) (h2 : 1 ≤ m) : m ∣ k * st ↔ (m / (egcd st m 1 0).1) ∣ k := by
  obtain ⟨g1, g2, _⟩ := egcd_facts st m h1 h2
  rw [g2]
  have hg : (Int.gcd st m : Int) ≠ 0 := by omega
  obtain ⟨x, hx⟩ : (Int.gcd st m : Int) ∣ st := Int.gcd_dvd_left ..
  obtain ⟨y, hy⟩ : (Int.gcd st m : Int) ∣ m := Int.gcd_dvd_right ..
  have e2 : m / (Int.gcd st m : Int) = y := Int.ediv_eq_of_eq_mul_right hg hy
  rw [e2]
  have hc : Int.gcd x y = 1 := by
    have h := Int.gcd_mul_left (Int.gcd st m : Int) x y
    rw [← hx, ← hy] at h
    have : (Int.gcd st m : Int).natAbs = Int.gcd st m := by simp
    rw [this] at h
    have hp : 0 < Int.gcd st m := by omega
    exact Nat.eq_of_mul_eq_mul_left hp (by omega)
  constructor
  · rintro ⟨c, hc'⟩
    have h3 : (Int.gcd st m : Int) * (k * x) = (Int.gcd st m : Int) * (y * c) := by
      have e : k * ((Int.gcd st m : Int) * x) = (Int.gcd st m : Int) * y * c := by rw [← hx, ← hy]; exact hc'
      rw [← Int.mul_assoc, Int.mul_comm _ k, Int.mul_assoc, e, Int.mul_assoc]
    have h4 := Int.eq_of_mul_eq_mul_left hg h3
    have h5 : y ∣ x * k := ⟨c, by rw [Int.mul_comm x k, h4]⟩
    have h6 := Int.dvd_gcd_mul_iff_dvd_mul.2 h5
    rw [Int.gcd_comm, hc] at h6
    simpa using h6
  · rintro ⟨c, rfl⟩
    refine ⟨c * x, ?_⟩
    have e3 : m * (c * x) = (Int.gcd st m : Int) * y * (c * x) := congrArg (· * (c * x)) hy
    have e4 : y * c * st = y * c * ((Int.gcd st m : Int) * x) := congrArg (y * c * ·) hx
    rw [e3, e4]
    simp only [Int.mul_assoc, Int.mul_comm, Int.mul_left_comm]

theorem emod_eq_of_dvd (x y m : Int) (h : m ∣ x - y) : x % m = y % m := (Int.emod_eq_emod_iff_emod_sub_eq_zero).2 (Int.emod_eq_zero_of_dvd h)

/-- What joinL finds has both remainders. -/
theorem joinL_rests (ar am br bm : Int) (h1 : 1 ≤ am) (h3 : 1 ≤ bm) (hd : Int.tmod (br - ar) (egcd am bm 1 0).1 = 0) :
    let p := bm / (egcd am bm 1 0).1
    let s := (Int.tdiv (br - ar) (egcd am bm 1 0).1 % p) * ((egcd am bm 1 0).2 % p) % p
    bm ∣ ar + s * am - br := by
  intro p s
  obtain ⟨g1, g2, _, _, k, hk⟩ := egcd_facts am bm h1 h3
  have hp := (part_bd am bm h1 h3).1
  have hgd : (egcd am bm 1 0).1 ∣ br - ar := Int.dvd_of_tmod_eq_zero hd
  obtain ⟨q, hq⟩ := hgd
  have hq2 : Int.tdiv (br - ar) (egcd am bm 1 0).1 = q := by rw [hq]; exact Int.mul_tdiv_cancel_left _ (by omega)
  have hs : p ∣ s - q * (egcd am bm 1 0).2 := by
    show p ∣ (Int.tdiv (br - ar) (egcd am bm 1 0).1 % p) * ((egcd am bm 1 0).2 % p) % p - q * (egcd am bm 1 0).2
    rw [hq2, ← Int.mul_emod]
    exact Int.dvd_of_emod_eq_zero (by rw [Int.sub_emod, Int.emod_emod]; simp)
  have h6 : bm ∣ (s - q * (egcd am bm 1 0).2) * am := (part_dvd am bm _ h1 h3).2 hs
  obtain ⟨c, hc⟩ := h6
  refine ⟨c + q * k, ?_⟩
  have e1 : s * am = bm * c + q * (am * (egcd am bm 1 0).2) := by
    rw [Int.sub_mul] at hc
    have : q * (egcd am bm 1 0).2 * am = q * (am * (egcd am bm 1 0).2) := by rw [Int.mul_assoc, Int.mul_comm am]
    omega
  rw [e1, hk]
  rw [Int.mul_add, Int.mul_add]
  have e2 : q * (k * bm) = bm * (q * k) := by rw [← Int.mul_assoc, Int.mul_comm]
  have e3 : q * (egcd am bm 1 0).1 = br - ar := by rw [hq, Int.mul_comm]
  omega

/-- The program's step is the document's. -/
theorem join_try (a st r m : Int) (h1 : 1 ≤ st) (h3 : 1 ≤ m) (h5 : 0 ≤ a) (h6 : a < st) (h7 : 0 ≤ r) (h8 : r < m) :
    match rtry st m r m.toNat a with
    | none => (joinL a st r m).2.2 = false
    | some v => joinL a st r m = (v % rstepTo st m, rstepTo st m, true) := by
  obtain ⟨g1, g2, _⟩ := egcd_facts st m h1 h3
  have hp := part_bd st m h1 h3
  by_cases hz : Int.tmod (r - a) (egcd st m 1 0).1 = 0
  · have hr := joinL_rests a st r m h1 h3 hz
    have hJ : joinL a st r m = (a + (Int.tdiv (r - a) (egcd st m 1 0).1 % (m / (egcd st m 1 0).1)) * ((egcd st m 1 0).2 % (m / (egcd st m 1 0).1)) % (m / (egcd st m 1 0).1) * st, st * (m / (egcd st m 1 0).1), true) := by
      unfold joinL; rw [if_neg (by simp [hz])]
    have hbd := joinL_bd a st r m h1 h3 h5 h6 (by rw [hJ])
    rw [hJ] at hbd
    rw [hJ]
    dsimp only at hr hbd
    have hs := emod_bd ((Int.tdiv (r - a) (egcd st m 1 0).1 % (m / (egcd st m 1 0).1)) * ((egcd st m 1 0).2 % (m / (egcd st m 1 0).1))) _ hp.1
    generalize (Int.tdiv (r - a) (egcd st m 1 0).1 % (m / (egcd st m 1 0).1)) * ((egcd st m 1 0).2 % (m / (egcd st m 1 0).1)) % (m / (egcd st m 1 0).1) = s at *
    obtain ⟨S, rfl⟩ := Int.eq_ofNat_of_zero_le hs.1
    have hSr : (a + (S : Int) * st) % m = r := by
      rw [emod_eq_of_dvd _ r m hr]; exact Int.emod_eq_of_lt h7 h8
    have htry : rtry st m r m.toNat a = some (a + (S : Int) * st) := by
      refine (rtry_spec st m r m.toNat a _).2 ⟨S, by omega, rfl, hSr, fun t ht e => ?_⟩
      have hd : m ∣ ((S : Int) - t) * st := by
        refine Int.dvd_of_emod_eq_zero ?_
        have := (Int.emod_eq_emod_iff_emod_sub_eq_zero (m := a + S * st) (k := a + t * st) (n := m)).1 (by rw [hSr, e])
        rw [← this]
        congr 1
        rw [Int.sub_mul]; omega
      have hd2 := (part_dvd st m _ h1 h3).1 hd
      have := Int.le_of_dvd (by omega) hd2
      omega
    rw [htry]
    show (a + (S : Int) * st, _, true) = ((a + (S : Int) * st) % rstepTo st m, _, true)
    unfold rstepTo
    rw [Int.emod_eq_of_lt hbd.1 hbd.2.1]
  · have hJ : (joinL a st r m).2.2 = false := by unfold joinL; rw [if_pos (by simp [hz])]
    cases htry : rtry st m r m.toNat a with
    | none => exact hJ
    | some v =>
      exfalso
      obtain ⟨t, ht, hv, hvr, _⟩ := (rtry_spec st m r m.toNat a v).1 htry
      apply hz
      refine Int.tmod_eq_zero_of_dvd ?_
      have hgs : (egcd st m 1 0).1 ∣ st := by rw [g2]; exact Int.gcd_dvd_left ..
      have hgm : (egcd st m 1 0).1 ∣ m := by rw [g2]; exact Int.gcd_dvd_right ..
      have hvm : m ∣ v - r := by
        refine Int.dvd_of_emod_eq_zero ?_
        refine (Int.emod_eq_emod_iff_emod_sub_eq_zero).1 ?_
        rw [hvr]; exact (Int.emod_eq_of_lt h7 h8).symm
      have h9 : (egcd st m 1 0).1 ∣ (t : Int) * st := Int.dvd_trans hgs (Int.dvd_mul_left _ _)
      have h10 : (egcd st m 1 0).1 ∣ v - r := Int.dvd_trans hgm hvm
      have : r - a = (t : Int) * st - (v - r) := by omega
      rw [this]
      exact Int.dvd_sub h9 h10

theorem lcmTo_all (m : Int) (ls : List (Int × Int)) : lcmTo m ls = 0 ∨ lcmTo m ls = 4 := by
  induction ls generalizing m with
  | nil => exact .inl rfl
  | cons x t ih =>
    rw [lcmTo]
    split
    · exact .inr rfl
    · exact ih _

theorem solveFrom_eq (ls : List (Int × Int)) (hb : anyBad ls = false) (a st : Int) (h1 : 1 ≤ st) (h5 : 0 ≤ a) (h6 : a < st) : solveFrom a st ls = rsolveFrom a st ls := by
  induction ls generalizing a st with
  | nil => rfl
  | cons x t ih =>
    have hx : 1 ≤ x.2 := (anyBad_false (x :: t) hb 0 (by simp)).1
    have hbt : anyBad t = false := by rw [anyBad, Bool.or_eq_false_iff] at hb; exact hb.2
    have hm := emod_bd x.1 x.2 hx
    have hj := join_try a st (x.1 % x.2) x.2 h1 hx h5 h6 hm.1 hm.2
    rw [solveFrom, rsolveFrom]
    cases htry : rtry st x.2 (x.1 % x.2) x.2.toNat a with
    | none => rw [htry] at hj; simp only at hj; rw [if_neg (by simp [hj])]
    | some v =>
      rw [htry] at hj
      simp only at hj
      have hb2 := (rstepTo_bd st x.2 h1 hx).2
      have hv := emod_bd v (rstepTo st x.2) hb2
      rw [hj]
      simp only [if_true]
      exact ih hbt _ _ hb2 hv.1 hv.2

theorem solveL_eq (ls : List (Int × Int)) : solveL ls = rsolveL ls := by
  unfold solveL rsolveL
  split
  · rfl
  · rename_i h
    have hz := checkL_zero ls (by simpa using h)
    rw [solveFrom_eq ls hz.2.1 0 1 (by omega) (by omega) (by omega)]

theorem rsolveFrom_mod (ls : List (Int × Int)) (a st : Int) (h : (rsolveFrom a st ls).2.2 = true) : (rsolveFrom a st ls).2.1 = lcmAll st ls := by
  induction ls generalizing a st with
  | nil => rfl
  | cons x t ih =>
    rw [rsolveFrom] at h ⊢
    cases htry : rtry st x.2 (x.1 % x.2) x.2.toNat a with
    | none => rw [htry] at h; simp at h
    | some v => rw [htry] at h; simp only at h ⊢; rw [lcmAll]; exact ih _ _ h

theorem rsolveFrom_drop (a st : Int) (ls : List (Int × Int)) (k : Nat) (h : k < ls.length) :
    rsolveFrom a st (ls.drop k) = match rtry st (ls[k]?.getD (0, 0)).2 ((ls[k]?.getD (0, 0)).1 % (ls[k]?.getD (0, 0)).2) (ls[k]?.getD (0, 0)).2.toNat a with
      | none => (0, 0, false)
      | some v => rsolveFrom (v % rstepTo st (ls[k]?.getD (0, 0)).2) (rstepTo st (ls[k]?.getD (0, 0)).2) (ls.drop (k + 1)) := by
  rw [List.drop_eq_getElem_cons h, rsolveFrom]; simp [h]
theorem lcmAll_drop (m : Int) (ls : List (Int × Int)) (k : Nat) (h : k < ls.length) :
    lcmAll m (ls.drop k) = lcmAll (rstepTo m (ls[k]?.getD (0, 0)).2) (ls.drop (k + 1)) := by
  rw [List.drop_eq_getElem_cons h, lcmAll]; simp [h]

end Go.Proofs.Ytijfcifoemndeab
