/- Menus that wait are served equally often: plain functions. -/
import Derived.Test.YtijfcifoemndeaaDaysLawM
set_option linter.unusedVariables false
namespace Go.Proofs.Ytijfcifoemndeaa

theorem sum_range_add (a : Nat → Int) (y m : Nat) : ((List.range m).map (fun i : Nat => a i + if (y : Int) = (i : Int) then 1 else 0)).sum = ((List.range m).map a).sum + if y < m then 1 else 0 := by
  induction m with
  | zero => simp
  | succ m ih =>
    rw [List.range_succ, List.map_append, List.map_append, List.sum_append, List.sum_append, ih]
    simp only [List.map_cons, List.map_nil, List.sum_cons, List.sum_nil]
    repeat' split
    all_goals omega
theorem srv_sum (m : Nat) (l : List (Int × Int)) (h : ∀ y ∈ l, 0 ≤ y.2 ∧ y.2 < (m : Int)) : (srv m l).sum = (l.length : Int) := by
  suffices H : ∀ q, q ≤ l.length → (srv m (l.take q)).sum = (q : Int) from by
    have := H l.length (Nat.le_refl _)
    rwa [List.take_length] at this
  intro q
  induction q with
  | zero =>
    intro _
    rw [List.take_zero, srv_nil]
    induction m with
    | zero => rfl
    | succ m ih => simp
  | succ q ih =>
    intro hq
    have hx := h l[q] (List.getElem_mem _)
    obtain ⟨y, hy⟩ : ∃ y : Nat, l[q].2 = y := ⟨l[q].2.toNat, by omega⟩
    rw [List.take_succ_eq_append_getElem (by omega)]
    have e : srv m (l.take q ++ [l[q]]) = (List.range m).map (fun i : Nat => cntM (i : Int) (l.take q) + if (y : Int) = (i : Int) then 1 else 0) := by
      unfold srv
      refine List.map_congr_left fun i _ => ?_
      rw [show l[q] = (l[q].1, l[q].2) from rfl, cntM_snoc, hy]
    rw [e, sum_range_add, if_pos (by omega)]
    have := ih (by omega)
    unfold srv at this
    rw [this]
    omega

theorem mst_vals (rs cs : List Int) (m k f : Int) (hk : k = 0 ∨ k = 1) (hm : 1 ≤ m) (h0 : 0 ≤ f) (h1 : f < m) (n : Nat) : ∀ y ∈ (mst m k f (wd rs cs n)).2, 0 ≤ y.2 ∧ y.2 < m := by
  induction n with
  | zero => intro y hy; cases hy
  | succ n ih =>
    intro y hy
    rw [mst_succ rs cs m k f hk] at hy
    rcases List.mem_append.1 hy with hy | hy
    · exact ih y hy
    · have hb := rst_bd rs cs m k f hm h0 h1 n
      split at hy
      · simp at hy; subst hy; exact hb
      · cases hy

/-- After N school days: N = q * m + r; who comes before r has one more. -/
theorem even_inv (rs cs : List Int) (m f : Int) (hm : 1 ≤ m) (h0 : 0 ≤ f) (h1 : f < m) (n : Nat) :
    ∃ q r : Int, 0 ≤ r ∧ r < m ∧ (rst rs cs m 0 f n).1 = (f + r) % m ∧ ∀ v : Int, 0 ≤ v → v < m → cntM v (mst m 0 f (wd rs cs n)).2 = q + if (v - f) % m < r then 1 else 0 := by
  induction n with
  | zero =>
    refine ⟨0, 0, by omega, by omega, ?_, fun v hv hv2 => ?_⟩
    · rw [Int.add_zero, Int.emod_eq_of_lt h0 h1]; rfl
    · have := Int.emod_nonneg (v - f) (by omega : m ≠ 0)
      rw [if_neg (by omega)]; rfl
  | succ n ih =>
    obtain ⟨q, r, hr0, hr1, hs, hc⟩ := ih
    cases ho : openB rs cs (n : Int) with
    | false =>
      refine ⟨q, r, hr0, hr1, ?_, fun v hv hv2 => ?_⟩
      · rw [← hs, rst, rstep]; simp [ho]
      · rw [mst_succ rs cs m 0 f (.inl rfl), ho]; simpa using hc v hv hv2
    | true =>
      have hnext : (rst rs cs m 0 f (n + 1)).1 = ((rst rs cs m 0 f n).1 + 1) % m := by rw [rst, rstep]; simp [ho]
      have hcn : ∀ v : Int, 0 ≤ v → v < m → cntM v (mst m 0 f (wd rs cs (n + 1))).2 = q + (if (v - f) % m < r then 1 else 0) + if (v - f) % m = r then 1 else 0 := by
        intro v hv hv2
        rw [mst_succ rs cs m 0 f (.inl rfl), ho]
        simp only [if_true]
        rw [cntM_snoc, hc v hv hv2, hs]
        congr 1
        have : ((f + r) % m = v) ↔ ((v - f) % m = r) := by
          constructor
          · intro e
            rw [← e, Int.sub_emod, Int.emod_emod, ← Int.sub_emod, show f + r - f = r by omega]
            exact Int.emod_eq_of_lt hr0 hr1
          · intro e
            rw [← e, Int.add_emod, Int.emod_emod, ← Int.add_emod, show f + (v - f) = v by omega]
            exact Int.emod_eq_of_lt hv hv2
        by_cases hh : (f + r) % m = v
        · rw [if_pos hh, if_pos (this.1 hh)]
        · rw [if_neg hh, if_neg (fun e => hh (this.2 e))]
      by_cases hlast : r + 1 < m
      · refine ⟨q, r + 1, by omega, hlast, ?_, fun v hv hv2 => ?_⟩
        · rw [hnext, hs, Int.emod_add_emod]; congr 1; omega
        · rw [hcn v hv hv2]
          repeat' split
          all_goals omega
      · have hr : r = m - 1 := by omega
        refine ⟨q + 1, 0, by omega, by omega, ?_, fun v hv hv2 => ?_⟩
        · rw [hnext, hs, Int.emod_add_emod, show f + r + 1 = f + m by omega, Int.add_emod_right, Int.add_zero]
        · have e1 := Int.emod_nonneg (v - f) (by omega : m ≠ 0)
          have e2 := Int.emod_lt_of_pos (v - f) (by omega : 0 < m)
          rw [hcn v hv hv2]
          repeat' split
          all_goals omega
theorem even_all (rs cs : List Int) (m f : Int) (hm : 1 ≤ m) (h0 : 0 ≤ f) (h1 : f < m) (n : Nat) (v w : Int) (hv : 0 ≤ v ∧ v < m) (hw : 0 ≤ w ∧ w < m) :
    cntM v (mst m 0 f (wd rs cs n)).2 ≤ cntM w (mst m 0 f (wd rs cs n)).2 + 1 := by
  obtain ⟨q, r, _, _, _, hc⟩ := even_inv rs cs m f hm h0 h1 n
  rw [hc v hv.1 hv.2, hc w hw.1 hw.2]
  repeat' split
  all_goals omega
theorem mst_length (rs cs : List Int) (m k f : Int) (n : Nat) : ((mst m k f (wd rs cs n)).2.length : Int) = cnt (sdl (wd rs cs n)) 0 n := by
  have h := congrArg List.length (mst_fst m k f (wd rs cs n))
  rw [List.length_map] at h
  rw [h]
  unfold cnt
  congr 1
  refine (congrArg List.length (List.filter_eq_self.2 fun x hx => ?_)).symm
  have := (mem_sd rs cs n x).1 hx
  simp; omega

end Go.Proofs.Ytijfcifoemndeaa
