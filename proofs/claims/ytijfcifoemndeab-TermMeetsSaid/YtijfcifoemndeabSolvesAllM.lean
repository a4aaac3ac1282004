/- What a solution of remainders has; any number has a solution of its own remainders. -/
import Derived.Test.YtijfcifoemndeabSolvesM
set_option linter.unusedVariables false
namespace Go.Proofs.Ytijfcifoemndeab

theorem dvd_rstepTo (st m : Int) (h1 : 1 ≤ st) (h2 : 1 ≤ m) : st ∣ rstepTo st m ∧ m ∣ rstepTo st m := by
  refine ⟨Int.dvd_mul_right _ _, ?_⟩
  rw [← rstepTo_div st m h1 h2]
  exact Int.dvd_mul_left _ _

theorem sub_emod_dvd (x n : Int) : n ∣ x - x % n := Int.dvd_self_sub_emod

/-- A step that is found. -/
theorem join_yes (a st r m : Int) (h1 : 1 ≤ st) (h3 : 1 ≤ m) (h5 : 0 ≤ a) (h6 : a < st) (h7 : 0 ≤ r) (h8 : r < m) (hj : (joinL a st r m).2.2 = true) :
    (joinL a st r m).2.1 = rstepTo st m ∧ st ∣ (joinL a st r m).1 - a ∧ m ∣ (joinL a st r m).1 - r := by
  have hz : Int.tmod (r - a) (egcd st m 1 0).1 = 0 := by
    unfold joinL at hj
    split at hj
    · simp at hj
    · rename_i h; simpa using h
  have hr := joinL_rests a st r m h1 h3 hz
  unfold joinL
  rw [if_neg (by simp [hz])]
  dsimp only at hr ⊢
  refine ⟨rfl, ?_, hr⟩
  refine ⟨_, (?_ : _ = st * ((r - a).tdiv (egcd st m 1 0).fst % (m / (egcd st m 1 0).fst) * ((egcd st m 1 0).snd % (m / (egcd st m 1 0).fst)) % (m / (egcd st m 1 0).fst)))⟩
  rw [Int.mul_comm st]
  omega

theorem solveFrom_yes (ls : List (Int × Int)) (hb : anyBad ls = false) (a st : Int) (h1 : 1 ≤ st) (h5 : 0 ≤ a) (h6 : a < st) (h : (solveFrom a st ls).2.2 = true) :
    0 ≤ (solveFrom a st ls).1 ∧ (solveFrom a st ls).1 < (solveFrom a st ls).2.1 ∧ st ∣ (solveFrom a st ls).2.1 ∧ st ∣ (solveFrom a st ls).1 - a ∧ ∀ l ∈ ls, l.2 ∣ (solveFrom a st ls).2.1 ∧ l.2 ∣ (solveFrom a st ls).1 - l.1 := by
  induction ls generalizing a st with
  | nil => exact ⟨h5, h6, Int.dvd_refl _, by rw [solveFrom]; simp, by simp⟩
  | cons x t ih =>
    have hx : 1 ≤ x.2 := (anyBad_false (x :: t) hb 0 (by simp)).1
    have hbt : anyBad t = false := by rw [anyBad, Bool.or_eq_false_iff] at hb; exact hb.2
    have hm := emod_bd x.1 x.2 hx
    rw [solveFrom] at h ⊢
    split at h
    · rename_i hj
      rw [if_pos hj]
      obtain ⟨j1, j2, j3⟩ := join_yes a st (x.1 % x.2) x.2 h1 hx h5 h6 hm.1 hm.2 hj
      have hbd := joinL_bd a st (x.1 % x.2) x.2 h1 hx h5 h6 hj
      have hb2 := (rstepTo_bd st x.2 h1 hx).2
      obtain ⟨i1, i2, i3, i4, i5⟩ := ih hbt _ _ (by omega) hbd.1 hbd.2.1 h
      generalize joinL a st (x.1 % x.2) x.2 = J at *
      have hd := dvd_rstepTo st x.2 h1 hx
      rw [j1] at i3 i4 i5 i2 i1 ⊢
      generalize solveFrom J.1 (rstepTo st x.2) t = R at *
      refine ⟨i1, i2, Int.dvd_trans hd.1 i3, ?_, ?_⟩
      · have := Int.dvd_add (Int.dvd_trans hd.1 i4) j2
        rwa [show R.1 - J.1 + (J.1 - a) = R.1 - a by omega] at this
      · intro l hl
        rcases List.mem_cons.1 hl with rfl | hl
        · refine ⟨Int.dvd_trans hd.2 i3, ?_⟩
          have h9 := Int.dvd_add (Int.dvd_trans hd.2 i4) j3
          have h10 := Int.dvd_sub h9 (sub_emod_dvd l.1 l.2)
          rwa [show R.1 - J.1 + (J.1 - l.1 % l.2) - (l.1 - l.1 % l.2) = R.1 - l.1 by omega] at h10
        · exact i5 l hl
    · simp at h

/-- If a number has all remainders, there is a solution, and it is that number but for multiples. -/
theorem solveFrom_own (ls : List (Int × Int)) (hb : anyBad ls = false) (num a st : Int) (h1 : 1 ≤ st) (h5 : 0 ≤ a) (h6 : a < st) (hn : st ∣ num - a) (hall : ∀ l ∈ ls, l.2 ∣ num - l.1) :
    (solveFrom a st ls).2.2 = true ∧ (solveFrom a st ls).2.1 ∣ num - (solveFrom a st ls).1 := by
  induction ls generalizing a st with
  | nil => exact ⟨rfl, hn⟩
  | cons x t ih =>
    have hx : 1 ≤ x.2 := (anyBad_false (x :: t) hb 0 (by simp)).1
    have hbt : anyBad t = false := by rw [anyBad, Bool.or_eq_false_iff] at hb; exact hb.2
    have hm := emod_bd x.1 x.2 hx
    have hxn : x.2 ∣ num - x.1 := hall x (by simp)
    have hj : (joinL a st (x.1 % x.2) x.2).2.2 = true := by
      obtain ⟨g1, g2, _⟩ := egcd_facts st x.2 h1 hx
      have hgs : (egcd st x.2 1 0).1 ∣ st := by rw [g2]; exact Int.gcd_dvd_left ..
      have hgm : (egcd st x.2 1 0).1 ∣ x.2 := by rw [g2]; exact Int.gcd_dvd_right ..
      have h9 : (egcd st x.2 1 0).1 ∣ x.1 % x.2 - a := by
        have e1 := Int.dvd_trans hgs hn
        have e2 := Int.dvd_trans hgm (sub_emod_dvd x.1 x.2)
        have e3 := Int.dvd_trans hgm hxn
        have := Int.dvd_sub (Int.dvd_sub e1 e2) e3
        rwa [show num - a - (x.1 - x.1 % x.2) - (num - x.1) = x.1 % x.2 - a by omega] at this
      unfold joinL
      rw [if_neg (by simp [Int.tmod_eq_zero_of_dvd h9])]
    rw [solveFrom, if_pos hj]
    obtain ⟨j1, j2, j3⟩ := join_yes a st (x.1 % x.2) x.2 h1 hx h5 h6 hm.1 hm.2 hj
    have hbd := joinL_bd a st (x.1 % x.2) x.2 h1 hx h5 h6 hj
    have hb2 := (rstepTo_bd st x.2 h1 hx).2
    refine ih hbt _ _ (by omega) hbd.1 hbd.2.1 ?_ (fun l hl => hall l (by simp [hl]))
    rw [j1]
    have e1 : st ∣ num - (joinL a st (x.1 % x.2) x.2).1 := by
      have := Int.dvd_sub hn j2
      rwa [show num - a - ((joinL a st (x.1 % x.2) x.2).1 - a) = num - (joinL a st (x.1 % x.2) x.2).1 by omega] at this
    have e2 : x.2 ∣ num - (joinL a st (x.1 % x.2) x.2).1 := by
      have h9 := sub_emod_dvd x.1 x.2
      have := Int.dvd_add (Int.dvd_sub h9 j3) hxn
      rwa [show x.1 - x.1 % x.2 - ((joinL a st (x.1 % x.2) x.2).1 - x.1 % x.2) + (num - x.1) = num - (joinL a st (x.1 % x.2) x.2).1 by omega] at this
    -- the least common multiple divides what both divide
    have e3 : x.2 ∣ ((num - (joinL a st (x.1 % x.2) x.2).1) / st) * st := by rw [Int.ediv_mul_cancel e1]; exact e2
    have e4 := (part_dvd st x.2 _ h1 hx).1 e3
    obtain ⟨c, hc⟩ := e4
    refine ⟨c, ?_⟩
    have e5 := Int.ediv_mul_cancel e1
    rw [hc] at e5
    rw [← e5]
    unfold rstepTo
    rw [Int.mul_comm, Int.mul_assoc]

theorem anyBad_map (ls : List (Int × Int)) (n : Int) : anyBad (ls.map fun l => (n, l.2)) = anyBad ls := by
  induction ls with
  | nil => rfl
  | cons x t ih => rw [List.map_cons, anyBad, anyBad, ih]; rfl
theorem lcmTo_map (ls : List (Int × Int)) (n m : Int) : lcmTo m (ls.map fun l => (n, l.2)) = lcmTo m ls := by
  induction ls generalizing m with
  | nil => rfl
  | cons x t ih => rw [List.map_cons, lcmTo, lcmTo, ih]
theorem checkL_map (ls : List (Int × Int)) (n : Int) : checkL (ls.map fun l => (n, l.2)) = checkL ls := by
  unfold checkL; rw [anyBad_map, lcmTo_map, List.length_map]

/-- What the law asks of a solution, in Go's own remainders. -/
theorem solveL_yes (ls : List (Int × Int)) (h0 : (solveL ls).2.2.2 = 0) (h : (solveL ls).2.2.1 = true) :
    0 ≤ (solveL ls).1 ∧ (solveL ls).1 < (solveL ls).2.1 ∧ ∀ l ∈ ls, 1 ≤ l.2 ∧ l.2 ≤ 100000 ∧ Int.tmod (solveL ls).2.1 l.2 = 0 ∧ Int.tmod ((solveL ls).1 - Int.tmod l.1 l.2) l.2 = 0 := by
  have hz : checkL ls = 0 := by
    unfold solveL at h
    split at h
    · simp at h
    · rename_i hh; simpa using hh
  obtain ⟨z1, z2, z3⟩ := checkL_zero ls hz
  unfold solveL at h ⊢
  rw [if_neg (by simp [hz])] at h ⊢
  obtain ⟨y1, y2, _, _, y5⟩ := solveFrom_yes ls z2 0 1 (by omega) (by omega) (by omega) h
  refine ⟨y1, y2, fun l hl => ?_⟩
  obtain ⟨i, hi, rfl⟩ := List.mem_iff_getElem.1 hl
  have hb := anyBad_false ls z2 i hi
  rw [List.getElem?_eq_getElem hi] at hb
  simp only [Option.getD_some] at hb
  obtain ⟨d1, d2⟩ := y5 _ hl
  refine ⟨hb.1, hb.2, Int.tmod_eq_zero_of_dvd d1, Int.tmod_eq_zero_of_dvd ?_⟩
  have e1 : ls[i].2 ∣ ls[i].1 - Int.tmod ls[i].1 ls[i].2 := by
    refine ⟨Int.tdiv ls[i].1 ls[i].2, ?_⟩
    have := Int.mul_tdiv_add_tmod ls[i].1 ls[i].2
    omega
  have := Int.dvd_add d2 e1
  dsimp only
  rwa [show (solveFrom 0 1 ls).1 - ls[i].1 + (ls[i].1 - Int.tmod ls[i].1 ls[i].2) = (solveFrom 0 1 ls).1 - Int.tmod ls[i].1 ls[i].2 by omega] at this

theorem solveL_own (ls : List (Int × Int)) (n : Int) (h0 : (solveL ls).2.2.2 = 0) :
    ∃ b m : Int, solveL (ls.map fun l => (n, l.2)) = (b, m, true, 0) ∧ 0 ≤ b ∧ b < m ∧ Int.tmod (Int.tmod n m - b) m = 0 := by
  have hz : checkL ls = 0 := by
    unfold solveL at h0
    split at h0
    · exact h0
    · rename_i hh; simpa using hh
  obtain ⟨z1, z2, z3⟩ := checkL_zero ls hz
  obtain ⟨o1, o2⟩ := solveFrom_own (ls.map fun l => (n, l.2)) (by rw [anyBad_map]; exact z2) n 0 1 (by omega) (by omega) (by omega) ⟨n, by omega⟩ (by
    intro l hl
    obtain ⟨y, _, rfl⟩ := List.mem_map.1 hl
    dsimp only
    exact ⟨0, by omega⟩)
  obtain ⟨y1, y2, _⟩ := solveFrom_yes (ls.map fun l => (n, l.2)) (by rw [anyBad_map]; exact z2) 0 1 (by omega) (by omega) (by omega) o1
  refine ⟨_, _, ?_, y1, y2, ?_⟩
  · unfold solveL
    rw [checkL_map, if_neg (by simp [hz]), o1]
  · refine Int.tmod_eq_zero_of_dvd ?_
    generalize solveFrom 0 1 (ls.map fun l => (n, l.2)) = R at *
    have e1 : R.2.1 ∣ n - Int.tmod n R.2.1 := by
      refine ⟨Int.tdiv n R.2.1, ?_⟩
      have := Int.mul_tdiv_add_tmod n R.2.1
      omega
    have := Int.dvd_sub o2 e1
    rwa [show n - R.1 - (n - Int.tmod n R.2.1) = Int.tmod n R.2.1 - R.1 by omega] at this

theorem lcmAll_bd (m : Int) (ls : List (Int × Int)) (h : lcmTo m ls = 0) (hm : m ≤ 1099511627776) : lcmAll m ls ≤ 1099511627776 := by
  induction ls generalizing m with
  | nil => exact hm
  | cons x t ih =>
    rw [lcmTo] at h
    split at h
    · simp at h
    · rename_i hh
      rw [lcmAll]
      exact ih _ h (by unfold rstepTo; omega)
theorem solveL_bd (ls : List (Int × Int)) (h0 : (solveL ls).2.2.2 = 0) (h : (solveL ls).2.2.1 = true) : (solveL ls).2.1 ≤ 1099511627776 := by
  have hz : checkL ls = 0 := by
    unfold solveL at h0
    split at h0
    · exact h0
    · rename_i hh; simpa using hh
  rw [solveL_eq] at h ⊢
  unfold rsolveL at h ⊢
  rw [if_neg (by simp [hz])] at h ⊢
  dsimp only at h ⊢
  rw [rsolveFrom_mod ls 0 1 h]
  exact lcmAll_bd 1 ls (checkL_zero ls hz).2.2 (by omega)

end Go.Proofs.Ytijfcifoemndeab
