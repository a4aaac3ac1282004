/- The first day on which two menus meet: plain functions. -/
import Derived.Test.YtilolaednbcaoaaDaysWithM
import Derived.Test.YtilolaednbcaoaaRefOpenM
set_option linter.unusedVariables false
namespace Go.Proofs.Ytilolaednbcaoaa

/-- The first element that is in the other list, too. -/
def firstIn (o : List Int) : List Int → Option Int
  | [] => none
  | d :: t => if memB d o then some d else firstIn o t
theorem firstIn_drop (o l : List Int) (k : Nat) (h : k < l.length) : firstIn o (l.drop k) = if memB (l[k]?.getD 0) o then some (l[k]?.getD 0) else firstIn o (l.drop (k + 1)) := by
  rw [List.drop_eq_getElem_cons h, firstIn]; simp [h]
def togR : Option Int → Int × Bool × Int | some d => (d, true, 0) | none => (0, false, 0)
def togL (L : Int) (rs cs : List Int) (m f k n g e x y : Int) : Int × Bool × Int :=
  if checkC L rs cs [(m, f, k), (n, g, e)] ≠ 0 then (0, false, checkC L rs cs [(m, f, k), (n, g, e)])
  else if isMenuB m x = false ∨ isMenuB n y = false then (0, false, 1)
  else togR (firstIn (dw y (mdays L rs cs n g e)) (dw x (mdays L rs cs m f k)))

/-- The document's own search: the first day from j on. -/
def rfind (la lb : List Int) (x y : Int) (j : Nat) : Nat → Option Int
  | 0 => none
  | q + 1 => if la[j]?.getD 0 = x ∧ lb[j]?.getD 0 = y then some (j : Int) else rfind la lb x y (j + 1) q

theorem mst_fst (m k f : Int) (l : List (Int × Bool)) : (mst m k f l).2.map (fun y => y.1) = sdl l := by
  suffices H : ∀ s : Int × List (Int × Int), (l.foldl (stepM m k) s).2.map (fun y => y.1) = s.2.map (fun y => y.1) ++ sdl l from by
    have := H (f, [])
    unfold mst
    simpa using this
  induction l with
  | nil => intro s; simp [sdl]
  | cons x t ih =>
    intro s
    rw [List.foldl_cons, ih]
    cases hx : x.2 <;> simp [stepM, hx, sdl]
theorem sd_pairwise (rs cs : List Int) (n : Nat) : (sdl (wd rs cs n)).Pairwise (· < ·) := by
  induction n with
  | zero => simp [wd, sdl]
  | succ n ih =>
    rw [sd_succ, List.pairwise_append]
    refine ⟨ih, by split <;> simp, ?_⟩
    intro a ha b hb
    have h1 := (mem_sd rs cs n a).1 ha
    split at hb
    · simp at hb; omega
    · cases hb
theorem dw_pairwise (rs cs : List Int) (m k f x : Int) (n : Nat) : (dw x (mst m k f (wd rs cs n)).2).Pairwise (· < ·) := by
  have h1 := sd_pairwise rs cs n
  rw [← mst_fst m k f] at h1
  exact h1.sublist (List.Sublist.map _ List.filter_sublist)
theorem pairwise_asc (l : List Int) (h : l.Pairwise (· < ·)) : Asc l := by
  intro i j hij hj
  have := List.pairwise_iff_getElem.1 h i j (by omega) hj hij
  simpa [hj, (by omega : i < l.length)] using this

/-- Which days have a menu. -/
theorem mem_dw (rs cs : List Int) (m k f x : Int) (hk : k = 0 ∨ k = 1) (hx : 0 ≤ x) (n : Nat) (d : Int) :
    d ∈ dw x (mst m k f (wd rs cs n)).2 ↔ ∃ i : Nat, d = i ∧ i < n ∧ (rst rs cs m k f n).2[i]?.getD 0 = x := by
  induction n with
  | zero => simp [wd, mst, dw]
  | succ n ih =>
    have hr := mst_rst rs cs m k f hk n
    have hl := rst_len rs cs m k f n
    have hold : ∀ i : Nat, i < n → (rst rs cs m k f (n + 1)).2[i]?.getD 0 = (rst rs cs m k f n).2[i]?.getD 0 := fun i hi => by
      rw [rst, rstep]
      dsimp only
      rw [List.getElem?_append_left (by omega)]
    have hnew : (rst rs cs m k f (n + 1)).2[n]?.getD 0 = if openB rs cs (n : Int) then (rst rs cs m k f n).1 else -1 := by
      rw [rst, rstep]
      dsimp only
      rw [List.getElem?_append_right (by omega), hl]
      simp
    have key : (d ∈ dw x (mst m k f (wd rs cs (n + 1))).2) ↔ (d ∈ dw x (mst m k f (wd rs cs n)).2) ∨ (d = n ∧ openB rs cs (n : Int) = true ∧ (rst rs cs m k f n).1 = x) := by
      cases hm : memB ((n : Int) % 7) rs with
      | true =>
        have hw : wd rs cs (n + 1) = wd rs cs n := by rw [wd, hm]; simp
        have ho : openB rs cs (n : Int) = false := by simp [openB, hm]
        rw [hw, ho]; simp
      | false =>
        have hw : wd rs cs (n + 1) = wd rs cs n ++ [((n : Int), !memB (n : Int) cs)] := by rw [wd, hm]; simp
        have ho : openB rs cs (n : Int) = !memB (n : Int) cs := by simp [openB, hm]
        rw [hw, mst_snoc, ho]
        simp only [stepM]
        cases hc : memB (n : Int) cs with
        | true => simp
        | false =>
          simp only [Bool.not_false, if_true]
          rw [hr.1]
          by_cases he : (rst rs cs m k f n).1 = x
          · rw [he, dw_yes]; simp
          · rw [dw_no _ _ _ _ he]; simp [he]
    rw [key, ih]
    constructor
    · rintro (⟨i, rfl, hi, e⟩ | ⟨rfl, ho, e⟩)
      · exact ⟨i, rfl, by omega, by rw [hold i hi]; exact e⟩
      · exact ⟨n, rfl, by omega, by rw [hnew, ho]; simpa using e⟩
    · rintro ⟨i, rfl, hi, e⟩
      rcases Nat.lt_or_ge i n with h | h
      · left; exact ⟨i, rfl, h, by rw [← hold i h]; exact e⟩
      · obtain rfl : i = n := by omega
        right
        rw [hnew] at e
        cases ho : openB rs cs (i : Int) with
        | true => rw [ho] at e; exact ⟨rfl, rfl, by simpa using e⟩
        | false => rw [ho] at e; simp at e; omega

theorem rfind_spec (la lb : List Int) (x y : Int) (q j : Nat) :
    (∀ d, rfind la lb x y j q = some d → ∃ i : Nat, d = i ∧ j ≤ i ∧ i < j + q ∧ la[i]?.getD 0 = x ∧ lb[i]?.getD 0 = y ∧ ∀ i', j ≤ i' → i' < i → ¬ (la[i']?.getD 0 = x ∧ lb[i']?.getD 0 = y)) ∧
    (rfind la lb x y j q = none → ∀ i, j ≤ i → i < j + q → ¬ (la[i]?.getD 0 = x ∧ lb[i]?.getD 0 = y)) := by
  induction q generalizing j with
  | zero => exact ⟨fun d hd => by simp [rfind] at hd, fun _ i h1 h2 => by omega⟩
  | succ q ih =>
    rw [rfind]
    by_cases hh : la[j]?.getD 0 = x ∧ lb[j]?.getD 0 = y
    · rw [if_pos hh]
      refine ⟨fun d hd => ?_, fun hd => by cases hd⟩
      simp only [Option.some.injEq] at hd
      exact ⟨j, hd.symm, Nat.le_refl _, by omega, hh.1, hh.2, fun i' h1 h2 => by omega⟩
    · rw [if_neg hh]
      obtain ⟨i1, i2⟩ := ih (j + 1)
      refine ⟨fun d hd => ?_, fun hd i h1 h2 => ?_⟩
      · obtain ⟨i, e, a, b, c, c', r⟩ := i1 d hd
        refine ⟨i, e, by omega, by omega, c, c', fun i' h1 h2 => ?_⟩
        rcases Nat.lt_or_ge j i' with h | h
        · exact r i' (by omega) h2
        · obtain rfl : i' = j := by omega
          exact hh
      · rcases Nat.lt_or_ge j i with h | h
        · exact i2 hd i (by omega) (by omega)
        · obtain rfl : i = j := by omega
          exact hh
theorem firstIn_spec (o l : List Int) (hl : l.Pairwise (· < ·)) :
    (∀ d, firstIn o l = some d → d ∈ l ∧ d ∈ o ∧ ∀ d' ∈ l, d' < d → d' ∉ o) ∧ (firstIn o l = none → ∀ d ∈ l, d ∉ o) := by
  induction l with
  | nil => exact ⟨fun d hd => by simp [firstIn] at hd, fun _ d hd => by cases hd⟩
  | cons a t ih =>
    rw [List.pairwise_cons] at hl
    obtain ⟨i1, i2⟩ := ih hl.2
    rw [firstIn]
    cases hm : memB a o with
    | true =>
      have hmm : a ∈ o := by simpa [memB] using hm
      refine ⟨fun d hd => ?_, fun hd => by simp at hd⟩
      simp at hd
      subst hd
      refine ⟨List.mem_cons_self .., hmm, fun d' h1 h2 => ?_⟩
      rcases List.mem_cons.1 h1 with rfl | h1
      · omega
      · have := hl.1 d' h1; omega
    | false =>
      have hmm : a ∉ o := by simpa [memB] using hm
      refine ⟨fun d hd => ?_, fun hd d h1 => ?_⟩
      · obtain ⟨a1, a2, a3⟩ := i1 d (by simpa using hd)
        refine ⟨List.mem_cons_of_mem _ a1, a2, fun d' h1 h2 => ?_⟩
        rcases List.mem_cons.1 h1 with rfl | h1
        · exact hmm
        · exact a3 d' h1 h2
      · rcases List.mem_cons.1 h1 with rfl | h1
        · exact hmm
        · exact i2 (by simpa using hd) d h1
theorem together_eq (rs cs : List Int) (m f k n' g e x y : Int) (n : Nat) (hk : k = 0 ∨ k = 1) (he : e = 0 ∨ e = 1) (hx : 0 ≤ x) (hy : 0 ≤ y) :
    firstIn (dw y (mst n' e g (wd rs cs n)).2) (dw x (mst m k f (wd rs cs n)).2) = rfind (rst rs cs m k f n).2 (rst rs cs n' e g n).2 x y 0 n := by
  obtain ⟨f1, f2⟩ := firstIn_spec (dw y (mst n' e g (wd rs cs n)).2) _ (dw_pairwise rs cs m k f x n)
  obtain ⟨r1, r2⟩ := rfind_spec (rst rs cs m k f n).2 (rst rs cs n' e g n).2 x y n 0
  have hA := mem_dw rs cs m k f x hk hx n
  have hB := mem_dw rs cs n' e g y he hy n
  cases h1 : firstIn (dw y (mst n' e g (wd rs cs n)).2) (dw x (mst m k f (wd rs cs n)).2) with
  | none =>
    cases h2 : rfind (rst rs cs m k f n).2 (rst rs cs n' e g n).2 x y 0 n with
    | none => rfl
    | some d =>
      exfalso
      obtain ⟨i, rfl, _, hi, a, b, _⟩ := r1 d h2
      exact f2 h1 i ((hA i).2 ⟨i, rfl, by omega, a⟩) ((hB i).2 ⟨i, rfl, by omega, b⟩)
  | some d =>
    obtain ⟨a1, a2, a3⟩ := f1 d h1
    obtain ⟨i, rfl, hi, ei⟩ := (hA d).1 a1
    obtain ⟨i', e', hi', ei'⟩ := (hB _).1 a2
    obtain rfl : i = i' := by omega
    cases h2 : rfind (rst rs cs m k f n).2 (rst rs cs n' e g n).2 x y 0 n with
    | none => exact absurd ⟨ei, ei'⟩ (r2 h2 i (by omega) (by omega))
    | some d2 =>
      obtain ⟨j, rfl, _, hj, b1, b2, b3⟩ := r1 d2 h2
      have h3 : ¬ i < j := fun hh => b3 i (by omega) hh ⟨ei, ei'⟩
      have h4 : ¬ j < i := fun hh => a3 j ((hA j).2 ⟨j, rfl, by omega, b1⟩) (by omega) ((hB j).2 ⟨j, rfl, by omega, b2⟩)
      have : i = j := by omega
      rw [this]

end Go.Proofs.Ytilolaednbcaoaa
