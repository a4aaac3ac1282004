/- By a cycle that runs on, closing a day changes no other day's menu: plain facts. -/
import Derived.Test.YtilolaednbcaoaaCloseM
import Derived.Test.YtilolaednbcaoaaMenusM
set_option linter.unusedVariables false
namespace Go.Proofs.Ytilolaednbcaoaa

theorem rst_at (rs cs : List Int) (m k f : Int) (n i : Nat) (hi : i < n) : (rst rs cs m k f n).2[i]?.getD 0 = if openB rs cs (i : Int) then (rst rs cs m k f i).1 else -1 := by
  induction n with
  | zero => omega
  | succ n ih =>
    have hl := rst_len rs cs m k f n
    rw [rst, rstep]
    dsimp only
    by_cases e : i = n
    · subst e
      rw [List.getElem?_append_right (by omega), hl]
      simp
    · rw [List.getElem?_append_left (by omega)]
      exact ih (by omega)
theorem rst_one (rs cs cs' : List Int) (m f : Int) (n : Nat) : (rst rs cs m 1 f n).1 = (rst rs cs' m 1 f n).1 := by
  induction n with
  | zero => rfl
  | succ n ih => rw [rst, rst, rstep, rstep]; simp [ih]
theorem memB_with {cs : List Int} {d o : Int} {k : Nat} (h : o ≠ d) (h0 : 0 ≤ o) (h1 : o < (k : Int)) : memB o (withTo cs d k) = memB o cs := by
  rw [memB, memB, decide_eq_decide, withTo_mem]
  constructor
  · rintro ⟨h2 | h2, _⟩
    · exact absurd h2 h
    · exact h2
  · exact fun h2 => ⟨.inr h2, h0, h1⟩
theorem close_one {L : Int} {rs cs : List Int} {d o : Int} (h : checkD L rs cs d = 0) (hd : d ∉ cs) (hl : cs.length ≠ 60) (ho : o ≠ d) (m f : Int) : menuL L rs (withTo cs d L.toNat) m f 1 o = menuL L rs cs m f 1 o := by
  have hv := (checkD_ok h).1
  have hv2 := (checkD_ok (with_valid h hd hl).1).1
  have hc : checkC L rs (withTo cs d L.toNat) [(m, f, 1)] = checkC L rs cs [(m, f, 1)] := by rw [checkC, checkC, hv, hv2]
  rw [menuL_eq, menuL_eq, rmenuL, rmenuL, hc]
  split
  · rfl
  · split
    · rfl
    · rename_i hr
      have hob : openB rs (withTo cs d L.toNat) o = openB rs cs o := by
        rw [openB, openB, memB_with ho (by omega) (by omega)]
      rw [hob]
      split
      · rfl
      · rw [rst_at _ _ _ _ _ _ _ (by omega), rst_at _ _ _ _ _ _ _ (by omega), Int.toNat_of_nonneg (by omega), hob, rst_one rs (withTo cs d L.toNat) cs]
theorem closeL_ok {L : Int} {rs cs : List Int} {d : Int} (h : (closeL L rs cs d).2 = 0) : checkD L rs cs d = 0 ∧ d ∉ cs ∧ cs.length ≠ 60 ∧ closeL L rs cs d = ((L, rs, withTo cs d L.toNat), 0) := by
  unfold closeL at h ⊢
  split at h
  · rename_i h1; exact absurd h h1
  · rename_i h1
    split at h
    · simp at h
    · rename_i h2
      split at h
      · simp at h
      · rename_i h3
        rw [if_neg h1, if_neg h2, if_neg h3]
        exact ⟨by simpa using h1, h2, h3, rfl⟩
theorem reopenL_ok {L : Int} {rs cs : List Int} {d : Int} (h : (reopenL L rs cs d).2 = 0) : checkD L rs cs d = 0 ∧ d ∈ cs ∧ reopenL L rs cs d = ((L, rs, lessDay cs d), 0) := by
  unfold reopenL at h ⊢
  split at h
  · rename_i h1; exact absurd h h1
  · rename_i h1
    split at h
    · rename_i h2
      rw [if_neg h1, if_pos h2]
      exact ⟨by simpa using h1, h2, rfl⟩
    · simp at h
theorem close_reopen {L : Int} {rs cs : List Int} {d : Int} (h : (closeL L rs cs d).2 = 0) : reopenL L rs (closeL L rs cs d).1.2.2 d = ((L, rs, cs), 0) := by
  obtain ⟨h1, h2, h3, h4⟩ := closeL_ok h
  rw [h4]
  dsimp only
  have hv := (with_valid h1 h2 h3).1
  obtain ⟨_, hd0, hd1⟩ := checkD_ok h1
  rw [reopenL, if_neg (by simp [hv]), if_pos ((withTo_mem _ _ _ _).2 ⟨.inl rfl, by omega, by omega⟩), less_with h1 h2]
theorem reopen_close {L : Int} {rs cs : List Int} {d : Int} (h : (reopenL L rs cs d).2 = 0) : closeL L rs (reopenL L rs cs d).1.2.2 d = ((L, rs, cs), 0) := by
  obtain ⟨h1, h2, h4⟩ := reopenL_ok h
  rw [h4]
  dsimp only
  have hv := less_valid h1
  obtain ⟨hv0, _, _⟩ := checkD_ok h1
  have h60 := (validT_ok hv0).2.2.2.2.1
  have hn : d ∉ lessDay cs d := by simp [lessDay]
  have hlt : (lessDay cs d).length < cs.length := by
    have hh : (lessDay cs d).length ≤ cs.length := List.length_filter_le _ _
    rcases Nat.lt_or_ge (lessDay cs d).length cs.length with h | h
    · exact h
    · exfalso
      have := (List.length_filter_eq_length_iff (p := fun x => x != d) (l := cs)).1 (by rw [lessDay] at h hh; omega) d h2
      simp at this
  rw [closeL, if_neg (by simp [hv]), if_neg hn, if_neg (by omega), with_less h1 h2]
end Go.Proofs.Ytilolaednbcaoaa
