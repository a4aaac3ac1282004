/- Counting school days: plain functions. -/
import Derived.Test.YtilolaednbcaoaaOpensM
import Derived.Test.YtilolaednbcaoaaRefM
set_option linter.unusedVariables false
namespace Go.Proofs.Ytilolaednbcaoaa

theorem sd_succ (rs cs : List Int) (j : Nat) : sdl (wd rs cs (j + 1)) = sdl (wd rs cs j) ++ (if openB rs cs (j : Int) then [(j : Int)] else []) := by
  rw [wd]
  cases hm : memB ((j : Int) % 7) rs with
  | true => simp [openB, hm]
  | false =>
    rw [if_neg (by simp), sdl_snoc]
    simp [openB, hm]
def cnt (l : List Int) (f t : Int) : Int := ((l.filter (fun x => decide (f ≤ x ∧ x < t))).length : Int)
theorem cnt_snoc (l : List Int) (x f t : Int) : cnt (l ++ [x]) f t = cnt l f t + if f ≤ x ∧ x < t then 1 else 0 := by
  unfold cnt
  rw [List.filter_append]
  by_cases h : f ≤ x ∧ x < t <;> simp [h]
theorem cnt_bd (l : List Int) (f t : Int) : 0 ≤ cnt l f t ∧ cnt l f t ≤ l.length := by
  unfold cnt
  have := List.length_filter_le (fun x => decide (f ≤ x ∧ x < t)) l
  omega
theorem cnt_add (l : List Int) (f b t : Int) (h1 : f ≤ b) (h2 : b ≤ t) : cnt l f b + cnt l b t = cnt l f t := by
  induction l with
  | nil => rfl
  | cons x r ih =>
    have e : ∀ a c : Int, cnt (x :: r) a c = cnt r a c + if a ≤ x ∧ x < c then 1 else 0 := fun a c => by
      unfold cnt
      rw [List.filter_cons]
      by_cases h : a ≤ x ∧ x < c <;> simp [h]
    rw [e, e, e]
    repeat' split
    all_goals omega
def countL (L : Int) (rs cs : List Int) (f t : Int) : Int × Int :=
  if validT L rs cs ≠ 0 then (0, validT L rs cs)
  else if f < 0 ∨ t < f ∨ L < t then (0, 1)
  else (cnt (sdl (wd rs cs L.toNat)) f t, 0)
/-- What the document's own answer counts. -/
def rcn (rs cs : List Int) (f : Int) : Nat → Int
  | 0 => 0
  | j + 1 => rcn rs cs f j + if openB rs cs (f + (j : Int)) then 1 else 0
theorem rcn_bd (rs cs : List Int) (f : Int) (j : Nat) : 0 ≤ rcn rs cs f j ∧ rcn rs cs f j ≤ j := by
  induction j with
  | zero => simp [rcn]
  | succ j ih => rw [rcn]; split <;> omega
theorem cnt_rcn (rs cs : List Int) (f t n : Nat) : cnt (sdl (wd rs cs n)) f t = rcn rs cs f (min n t - f) := by
  induction n with
  | zero => simp [wd, sdl, cnt, rcn]
  | succ n ih =>
    rw [sd_succ]
    by_cases hr : f ≤ n ∧ n < t
    · have e1 : min (n + 1) t - f = (min n t - f) + 1 := by omega
      have e2 : (f : Int) + ((min n t - f : Nat) : Int) = (n : Int) := by omega
      rw [e1, rcn, e2]
      cases openB rs cs (n : Int) with
      | true =>
        rw [if_pos rfl, cnt_snoc, ih, if_pos (by omega)]
        simp
      | false => simp [ih]
    · have e1 : min (n + 1) t - f = min n t - f := by omega
      rw [e1]
      split
      · rw [cnt_snoc, ih, if_neg (by omega)]; simp
      · simp [ih]

theorem cnt_rcn' (rs cs : List Int) (L f t : Int) (h0 : 0 ≤ f) (h1 : f ≤ t) (h2 : t ≤ L) : cnt (sdl (wd rs cs L.toNat)) f t = rcn rs cs f (t - f).toNat := by
  obtain ⟨fn, rfl⟩ := Int.eq_ofNat_of_zero_le h0
  obtain ⟨tn, rfl⟩ := Int.eq_ofNat_of_zero_le (by omega : 0 ≤ t)
  rw [cnt_rcn, show min L.toNat tn - fn = ((tn : Int) - (fn : Int)).toNat by omega]

theorem countL_zero {L : Int} {rs cs : List Int} {f t : Int} (h : (countL L rs cs f t).2 = 0) : validT L rs cs = 0 ∧ 0 ≤ f ∧ f ≤ t ∧ t ≤ L ∧ countL L rs cs f t = (cnt (sdl (wd rs cs L.toNat)) f t, 0) := by
  unfold countL at h ⊢
  split at h
  · rename_i h1; exact absurd h h1
  · rename_i h1
    split at h
    · simp at h
    · rename_i h2
      exact ⟨by simpa using h1, by omega, by omega, by omega, by rw [if_neg h1, if_neg h2]⟩
theorem countL_bd (L : Int) (rs cs : List Int) (f t : Int) : 0 ≤ (countL L rs cs f t).1 ∧ (countL L rs cs f t).1 ≤ 1000 := by
  unfold countL
  split
  · simp
  · rename_i h1
    split
    · simp
    · have hL := (validT_ok (by simpa using h1)).2.1
      have h2 := cnt_bd (sdl (wd rs cs L.toNat)) f t
      have h3 := wd_len rs cs L.toNat
      have h4 : (sdl (wd rs cs L.toNat)).length ≤ (wd rs cs L.toNat).length := by simp [sdl]; exact List.length_filter_le _ _
      dsimp only
      omega
theorem countL_add {L : Int} {rs cs : List Int} {f b t : Int} (h1 : (countL L rs cs f b).2 = 0) (h2 : (countL L rs cs b t).2 = 0) :
    (countL L rs cs f t).2 = 0 ∧ (countL L rs cs f b).1 + (countL L rs cs b t).1 = (countL L rs cs f t).1 := by
  obtain ⟨v1, a1, a2, a3, e1⟩ := countL_zero h1
  obtain ⟨v2, b1, b2, b3, e2⟩ := countL_zero h2
  have e3 : countL L rs cs f t = (cnt (sdl (wd rs cs L.toNat)) f t, 0) := by rw [countL, if_neg (by simp [v1]), if_neg (by omega)]
  rw [e1, e2, e3]
  exact ⟨rfl, cnt_add _ f b t a2 b2⟩

end Go.Proofs.Ytilolaednbcaoaa
