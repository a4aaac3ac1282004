/- Days, numbers and menus: plain functions. -/
import Derived.Test.YtilolaednbcaoaaDaysLawM
import Derived.Test.YtilolaednbcaoaaCountsM
import Derived.Test.YtilolaednbcaoaaCloseOneM
set_option linter.unusedVariables false
namespace Go.Proofs.Ytilolaednbcaoaa

/-- How many days below n are school days. -/
def opn (rs cs : List Int) (n : Nat) : Int := ((sdl (wd rs cs n)).length : Int)
theorem opn_zero (rs cs : List Int) : opn rs cs 0 = 0 := rfl
theorem opn_succ (rs cs : List Int) (n : Nat) : opn rs cs (n + 1) = opn rs cs n + if openB rs cs (n : Int) then 1 else 0 := by
  unfold opn
  rw [sd_succ]
  split <;> simp
theorem opn_bd (rs cs : List Int) (n : Nat) : 0 ≤ opn rs cs n ∧ opn rs cs n ≤ n := by
  have := sd_length rs cs n
  unfold opn; omega
theorem wd_le (rs cs : List Int) (k n : Nat) (h : k ≤ n) : sdl (wd rs cs k) <+: sdl (wd rs cs n) := sdl_prefix _ _ (wd_prefix rs cs k n h)
theorem nth_open {L : Int} {rs cs : List Int} (hv : validT L rs cs = 0) {d : Nat} (hd : d < L.toNat) (ho : openB rs cs (d : Int) = true) : nthL L rs cs (opn rs cs d) = ((d : Int), 0) := by
  have hp := wd_le rs cs (d + 1) L.toNat (by omega)
  rw [sd_succ, if_pos ho] at hp
  obtain ⟨t, ht⟩ := hp
  have h0 := opn_bd rs cs d
  rw [nthL, if_neg (by simp [hv]), nthLR, nthAt, if_neg (by omega), ← ht]
  have : (opn rs cs d).toNat = (sdl (wd rs cs d)).length := by simp [opn]
  rw [this, List.append_assoc, List.getElem?_append_right (Nat.le_refl _)]
  simp [optR]
theorem nth_end {L : Int} {rs cs : List Int} (hv : validT L rs cs = 0) : nthL L rs cs (opn rs cs L.toNat) = (0, 5) := by
  have h0 := opn_bd rs cs L.toNat
  rw [nthL, if_neg (by simp [hv]), nthLR, nthAt, if_neg (by omega)]
  have : (opn rs cs L.toNat).toNat = (sdl (wd rs cs L.toNat)).length := by simp [opn]
  rw [this, List.getElem?_eq_none (Nat.le_refl _)]
  rfl
theorem count_all {L : Int} {rs cs : List Int} (hv : validT L rs cs = 0) : countL L rs cs 0 L = (opn rs cs L.toNat, 0) := by
  obtain ⟨v1, _⟩ := validT_ok hv
  rw [countL, if_neg (by simp [hv]), if_neg (by omega), cnt, opn]
  rw [List.filter_eq_self.2 (fun x hx => by have := (mem_sd rs cs L.toNat x).1 hx; simp; omega)]
/-- The menus of all days, -1 for a day without one. -/
def allM (L : Int) (rs cs : List Int) (m f k : Int) : List Int := (rst rs cs m k f L.toNat).2
theorem rst_old (rs cs : List Int) (m k f : Int) (n i : Nat) (h : i < n) : (rst rs cs m k f (n + 1)).2[i]?.getD 0 = (rst rs cs m k f n).2[i]?.getD 0 := by
  have hl := rst_len rs cs m k f n
  rw [rst_succ, List.getElem?_append_left (by omega)]
theorem rst_new (rs cs : List Int) (m k f : Int) (n : Nat) : (rst rs cs m k f (n + 1)).2[n]?.getD 0 = if openB rs cs (n : Int) then (rst rs cs m k f n).1 else -1 := by
  have hl := rst_len rs cs m k f n
  rw [rst_succ, List.getElem?_append_right (by omega), hl]
  simp
theorem rst_state (rs cs : List Int) (m k f : Int) (hm : 1 ≤ m) (h0 : 0 ≤ f) (h1 : f < m) (n : Nat) : 0 ≤ (rst rs cs m k f n).1 ∧ (rst rs cs m k f n).1 < m := by
  induction n with
  | zero => exact ⟨h0, h1⟩
  | succ n ih =>
    rw [rst, rstep]
    dsimp only
    split
    · exact ⟨Int.emod_nonneg _ (by omega), Int.emod_lt_of_pos _ (by omega)⟩
    · exact ih
theorem rst_day (rs cs : List Int) (m k f : Int) (n i : Nat) (h : i < n) : (rst rs cs m k f n).2[i]?.getD 0 = if openB rs cs (i : Int) then (rst rs cs m k f i).1 else -1 := by
  induction n with
  | zero => omega
  | succ n ih =>
    by_cases hi : i = n
    · subst hi; exact rst_new ..
    · rw [rst_old _ _ _ _ _ _ _ (by omega)]; exact ih (by omega)
theorem rst_waits (rs cs : List Int) (m f : Int) (hm : 1 ≤ m) (h0 : 0 ≤ f) (h1 : f < m) (n : Nat) : (rst rs cs m 0 f n).1 = (f + opn rs cs n) % m := by
  induction n with
  | zero => rw [opn_zero, Int.add_zero, Int.emod_eq_of_lt h0 h1]; rfl
  | succ n ih =>
    rw [rst, rstep, opn_succ]
    dsimp only
    cases ho : openB rs cs (n : Int) with
    | true =>
      rw [if_pos (.inl ⟨rfl, rfl⟩), ih]
      simp only [if_true]
      rw [Int.emod_add_emod, ← Int.add_assoc]
    | false =>
      rw [if_neg (by simp), ih]
      simp
theorem allM_len (L : Int) (rs cs : List Int) (m f k : Int) : (allM L rs cs m f k).length = L.toNat := rst_len ..
theorem allM_at {L : Int} (rs cs : List Int) {m f : Int} (k : Int) (hm : 1 ≤ m) (h0 : 0 ≤ f) (h1 : f < m) {d : Nat} (hd : d < L.toNat) :
    if openB rs cs (d : Int) then 0 ≤ (allM L rs cs m f k)[d]?.getD 0 ∧ (allM L rs cs m f k)[d]?.getD 0 < m else (allM L rs cs m f k)[d]?.getD 0 = -1 := by
  unfold allM
  rw [rst_day _ _ _ _ _ _ _ hd]
  have := rst_state rs cs m k f hm h0 h1 d
  split
  · exact this
  · rfl
theorem rdw_mem (x : Int) (l : List Int) (n : Nat) (d : Nat) : (d : Int) ∈ rdw x l n ↔ d < n ∧ l[d]?.getD 0 = x := by
  induction n with
  | zero => simp [rdw]
  | succ n ih =>
    rw [rdw, List.mem_append, ih]
    by_cases hd : d = n
    · subst hd
      constructor
      · rintro (h | h)
        · omega
        · split at h
          · rename_i hx; exact ⟨by omega, hx⟩
          · cases h
      · rintro ⟨_, h⟩
        exact .inr (by rw [if_pos h]; simp)
    · constructor
      · rintro (h | h)
        · exact ⟨by omega, h.2⟩
        · split at h
          · simp at h; omega
          · cases h
      · rintro ⟨h1, h2⟩
        exact .inl ⟨by omega, h2⟩
theorem rdw_asc (x : Int) (l : List Int) (n : Nat) : (rdw x l n).Pairwise (· < ·) := by
  induction n with
  | zero => exact List.Pairwise.nil
  | succ n ih =>
    rw [rdw]
    split
    · refine List.pairwise_append.2 ⟨ih, List.pairwise_singleton _ _, fun a ha b hb => ?_⟩
      obtain rfl := List.mem_singleton.1 hb
      exact (rdw_bd x l n a ha).2
    · simpa using ih
/-- The list of menus while the menu j is laid: the days of pre have it. -/
def FillP (R : List Int) (j : Int) (pre M : List Int) : Prop := M.length = R.length ∧ ∀ d : Nat, d < R.length → M[d]?.getD 0 = if R[d]?.getD 0 < j ∨ (d : Int) ∈ pre then R[d]?.getD 0 else -1
theorem FillP.start (R : List Int) (h : ∀ d : Nat, d < R.length → -1 ≤ R[d]?.getD 0) (M : List Int) (hl : M.length = R.length) (hM : ∀ d : Nat, d < R.length → M[d]?.getD 0 = -1) : FillP R 0 [] M := by
  refine ⟨hl, fun d hd => ?_⟩
  rw [hM d hd]
  have := h d hd
  split
  · rename_i hh; simp at hh; omega
  · rfl
theorem FillP.next {R M : List Int} {j : Int} (h : FillP R j (rdw j R R.length) M) : FillP R (j + 1) [] M := by
  refine ⟨h.1, fun d hd => ?_⟩
  rw [h.2 d hd]
  have he : (R[d]?.getD 0 < j ∨ (d : Int) ∈ rdw j R R.length) ↔ (R[d]?.getD 0 < j + 1 ∨ (d : Int) ∈ ([] : List Int)) := by
    rw [rdw_mem]
    simp only [List.not_mem_nil, or_false]
    constructor
    · rintro (h | ⟨_, h⟩) <;> omega
    · intro h; by_cases hh : R[d]?.getD 0 = j
      · exact .inr ⟨hd, hh⟩
      · exact .inl (by omega)
  by_cases hc : R[d]?.getD 0 < j ∨ (d : Int) ∈ rdw j R R.length
  · rw [if_pos hc, if_pos (he.1 hc)]
  · rw [if_neg hc, if_neg (fun hh => hc (he.2 hh))]
theorem FillP.done {R M : List Int} {j : Int} (h : FillP R j [] M) (hj : ∀ d : Nat, d < R.length → R[d]?.getD 0 < j) : M = R := by
  apply List.ext_getElem h.1
  intro i h1 h2
  have h3 := h.2 i h2
  rw [if_pos (.inl (hj i h2)), List.getElem?_eq_getElem h1, List.getElem?_eq_getElem h2] at h3
  exact h3
/-- One day more. -/
theorem FillP.step {R M : List Int} {j : Int} {i : Nat} (h : FillP R j ((rdw j R R.length).take i) M) (hi : i < (rdw j R R.length).length) :
    ∃ x : Nat, (rdw j R R.length)[i]?.getD 0 = (x : Int) ∧ x < R.length ∧ M[x]?.getD 0 = -1 ∧ FillP R j ((rdw j R R.length).take (i + 1)) (M.set x j) := by
  have hmem : (rdw j R R.length)[i] ∈ rdw j R R.length := List.getElem_mem hi
  obtain ⟨hb0, hb1⟩ := rdw_bd _ _ _ _ hmem
  obtain ⟨x, hx⟩ := Int.eq_ofNat_of_zero_le hb0
  rw [hx] at hmem
  obtain ⟨hxl, hxj⟩ := (rdw_mem _ _ _ _).1 hmem
  have hnot : (x : Int) ∉ (rdw j R R.length).take i := by
    intro hh
    obtain ⟨q, hq, he⟩ := List.mem_take_iff_getElem.1 hh
    have := List.pairwise_iff_getElem.1 (rdw_asc j R R.length) q i (by omega) hi (by omega)
    rw [he, hx] at this; omega
  have hml := h.1
  refine ⟨x, by rw [List.getElem?_eq_getElem hi, Option.getD_some, hx], hxl, ?_, by simp [h.1], fun d hd => ?_⟩
  · rw [h.2 x hxl, if_neg (by rintro (hh | hh); · omega
                              · exact hnot hh)]
  · rw [List.take_add_one, List.getElem?_eq_getElem hi, hx, Option.toList_some]
    by_cases hdx : d = x
    · subst hdx
      rw [List.getElem?_set_self (by omega), Option.getD_some, if_pos (.inr (by simp)), hxj]
    · rw [List.getElem?_set_ne (fun e => hdx e.symm), h.2 d hd]
      have he : (R[d]?.getD 0 < j ∨ (d : Int) ∈ (rdw j R R.length).take i) ↔ (R[d]?.getD 0 < j ∨ (d : Int) ∈ (rdw j R R.length).take i ++ [(x : Int)]) := by
        simp only [List.mem_append, List.mem_singleton]
        constructor
        · rintro (h | h)
          · exact .inl h
          · exact .inr (.inl h)
        · rintro (h | h | h)
          · exact .inl h
          · exact .inr h
          · omega
      by_cases hc : R[d]?.getD 0 < j ∨ (d : Int) ∈ (rdw j R R.length).take i
      · rw [if_pos hc, if_pos (he.1 hc)]
      · rw [if_neg hc, if_neg (fun hh => hc (he.2 hh))]
/-- A day that is closed is one school day less, if it was one. -/
theorem opn_close {rs cs cs' : List Int} {d : Int} {N : Nat} (h0 : 0 ≤ d) (h1 : d < N) (hmem : ∀ x : Int, 0 ≤ x → x < N → (x ∈ cs' ↔ x = d ∨ x ∈ cs)) (n : Nat) (hn : n ≤ N) :
    opn rs cs' n = opn rs cs n - if d < n ∧ openB rs cs d = true then 1 else 0 := by
  induction n with
  | zero => simp [opn_zero]; omega
  | succ n ih =>
    rw [opn_succ, opn_succ, ih (by omega)]
    have hm := hmem (n : Int) (by omega) (by omega)
    by_cases hd : (n : Int) = d
    · have hin : (n : Int) ∈ cs' := hm.2 (.inl hd)
      have hc : openB rs cs' (n : Int) = false := by simp [openB, memB, hin]
      rw [hc, hd]
      have e' : ¬ (d < d ∧ openB rs cs d = true) := fun h => by omega
      have e : (d < ((n + 1 : Nat) : Int) ∧ openB rs cs d = true) ↔ openB rs cs d = true := ⟨fun h => h.2, fun h => ⟨by omega, h⟩⟩
      simp only [e', e]
      cases openB rs cs d <;> simp
    · have hc : openB rs cs' (n : Int) = openB rs cs (n : Int) := by simp [openB, memB, hm, hd]
      rw [hc]
      by_cases hdn : d < (n : Int)
      · have e : (d < ((n + 1 : Nat) : Int) ∧ openB rs cs d = true) ↔ (d < (n : Int) ∧ openB rs cs d = true) := ⟨fun h => ⟨hdn, h.2⟩, fun h => ⟨by omega, h.2⟩⟩
        simp only [e]; omega
      · have e : ¬ (d < ((n + 1 : Nat) : Int) ∧ openB rs cs d = true) := fun h => by omega
        have e' : ¬ (d < (n : Int) ∧ openB rs cs d = true) := fun h => by omega
        rw [if_neg e, if_neg e']; omega
theorem closed_count {L : Int} {rs cs : List Int} {d : Int} (h : (closeL L rs cs d).2 = 0) : countL (closeL L rs cs d).1.1 (closeL L rs cs d).1.2.1 (closeL L rs cs d).1.2.2 0 L = (opn rs cs L.toNat - (if openB rs cs d then 1 else 0), 0) := by
  obtain ⟨h1, h2, h3, h4⟩ := closeL_ok h
  obtain ⟨hv0, hd0, hd1⟩ := checkD_ok h1
  have hv := (checkD_ok (with_valid h1 h2 h3).1).1
  rw [h4]
  dsimp only
  have hmem : ∀ x : Int, 0 ≤ x → x < ((L.toNat : Nat) : Int) → (x ∈ withTo cs d L.toNat ↔ x = d ∨ x ∈ cs) := by
    intro x hx0 hx1
    rw [withTo_mem]
    exact ⟨fun h => h.1, fun h => ⟨h, hx0, hx1⟩⟩
  rw [count_all hv, opn_close hd0 (by omega) hmem L.toNat (Nat.le_refl _)]
  have e : (d < ((L.toNat : Nat) : Int) ∧ openB rs cs d = true) ↔ openB rs cs d = true := ⟨fun h => h.2, fun h => ⟨by omega, h⟩⟩
  simp only [e]
theorem week_count : countL 7 [5, 6] [] 0 7 = (5, 0) := by decide +kernel
end Go.Proofs.Ytilolaednbcaoaa
