/- What spans of days tell of a day: plain mathematics. -/
import Derived.Test.YtkepjoociidkcaaOrM
set_option linter.unusedVariables false
namespace Go.Proofs.Ytkepjoociidkcaa

theorem addDay_cases (s : List Spn) (d m : Int) : (∃ init x, s = init ++ [x] ∧ x.t = d ∧ x.m = m ∧ addDay s d m = init ++ [⟨x.f, x.t + 1, x.m⟩]) ∨ addDay s d m = s ++ [⟨d, d + 1, m⟩] := by
  unfold addDay
  split
  · rename_i h
    left
    obtain ⟨h0, h1, h2⟩ := h
    have hne : s ≠ [] := by intro e; rw [e] at h0; simp at h0
    have hs : s = s.dropLast ++ [s.getLast hne] := (List.dropLast_concat_getLast hne).symm
    have hx : sAt s (s.length - 1) = s.getLast hne := by
      unfold sAt
      rw [List.getLast_eq_getElem, List.getElem?_eq_getElem (by omega)]
      rfl
    rw [hx] at h1 h2 ⊢
    refine ⟨s.dropLast, s.getLast hne, hs, h1, h2, ?_⟩
    have hl : s.length - 1 = s.dropLast.length := by simp
    generalize s.getLast hne = x at *
    generalize s.dropLast = init at *
    rw [hl]
    subst hs
    simp
  · exact .inr rfl
/-- Spans lie within the days that were gone through, and none is empty. -/
theorem spTo_bd (g : Int → Option Int) (k : Nat) : ∀ x ∈ spTo g k, 0 ≤ x.f ∧ x.f < x.t ∧ x.t ≤ (k : Int) := by
  induction k with
  | zero => simp [spTo]
  | succ k ih =>
    unfold spTo
    cases hg : g (k : Int) with
    | none => intro x hx; have := ih x hx; omega
    | some m =>
      rcases addDay_cases (spTo g k) (k : Int) m with ⟨init, y, hs, ht, hm, he⟩ | he
      · rw [hs] at ih
        show ∀ x ∈ addDay (spTo g k) (k : Int) m, _
        rw [he]
        intro x hx
        rcases List.mem_append.1 hx with h | h
        · have := ih x (by simp [h]); omega
        · have hy := ih y (by simp)
          simp at h; subst h; dsimp only; omega
      · show ∀ x ∈ addDay (spTo g k) (k : Int) m, _
        rw [he]
        intro x hx
        rcases List.mem_append.1 hx with h | h
        · have := ih x h; omega
        · simp at h; subst h; dsimp only; omega
/-- A day lies in a span with a meal exactly if it has it. -/
theorem spTo_day (g : Int → Option Int) (k : Nat) (i : Int) (h0 : 0 ≤ i) (hk : i < (k : Int)) (m : Int) : (∃ x ∈ spTo g k, x.f ≤ i ∧ i < x.t ∧ x.m = m) ↔ g i = some m := by
  induction k with
  | zero => omega
  | succ k ih =>
    have hb := spTo_bd g k
    have hsp : spTo g (k + 1) = match g (k : Int) with | none => spTo g k | some m => addDay (spTo g k) (k : Int) m := rfl
    rw [hsp]
    cases hg : g (k : Int) with
    | none =>
      by_cases hi : i = (k : Int)
      · rw [hi, hg]
        constructor
        · rintro ⟨x, hx, _, h2, _⟩; have := hb x hx; omega
        · intro h; cases h
      · exact ih (by omega)
    | some m1 =>
      dsimp only
      rcases addDay_cases (spTo g k) (k : Int) m1 with ⟨init, y, hs, ht, hm, he⟩ | he
      · rw [he]
        rw [hs] at hb
        by_cases hi : i = (k : Int)
        · rw [hi, hg]
          constructor
          · rintro ⟨x, hx, h1, h2, h3⟩
            rcases List.mem_append.1 hx with h | h
            · have := hb x (by simp [h]); omega
            · simp at h; subst h; dsimp only at h3; rw [← hm, h3]
          · intro h
            cases h
            have hy := hb y (by simp)
            exact ⟨⟨y.f, y.t + 1, y.m⟩, by simp, by dsimp only; omega, by dsimp only; omega, hm⟩
        · have ih2 := ih (by omega)
          rw [hs] at ih2
          rw [← ih2]
          constructor
          · rintro ⟨x, hx, h1, h2, h3⟩
            rcases List.mem_append.1 hx with h | h
            · exact ⟨x, by simp [h], h1, h2, h3⟩
            · simp at h; subst h; dsimp only at h1 h2 h3
              exact ⟨y, by simp, h1, by omega, h3⟩
          · rintro ⟨x, hx, h1, h2, h3⟩
            rcases List.mem_append.1 hx with h | h
            · exact ⟨x, by simp [h], h1, h2, h3⟩
            · simp at h; subst h
              exact ⟨⟨x.f, x.t + 1, x.m⟩, by simp, h1, by dsimp only; omega, h3⟩
      · rw [he]
        by_cases hi : i = (k : Int)
        · rw [hi, hg]
          constructor
          · rintro ⟨x, hx, h1, h2, h3⟩
            rcases List.mem_append.1 hx with h | h
            · have := hb x h; omega
            · simp at h; subst h; dsimp only at h3; rw [h3]
          · intro h
            cases h
            exact ⟨⟨(k : Int), (k : Int) + 1, m⟩, by simp, by dsimp only; omega, by dsimp only; omega, rfl⟩
        · rw [← ih (by omega)]
          constructor
          · rintro ⟨x, hx, h1, h2, h3⟩
            rcases List.mem_append.1 hx with h | h
            · exact ⟨x, h, h1, h2, h3⟩
            · simp at h; subst h; dsimp only at h1; omega
          · rintro ⟨x, hx, h1, h2, h3⟩
            exact ⟨x, by simp [hx], h1, h2, h3⟩
/-- How many of the days below k begin a run. -/
def runsTo (g : Int → Option Int) : Nat → Nat
  | 0 => 0
  | k + 1 => runsTo g k + if (g (k : Int)).isSome = true ∧ ¬ (0 < k ∧ (g ((k : Int) - 1)).isSome = true) then 1 else 0
/-- With one meal alone, spans are runs. -/
theorem spTo_runs (g : Int → Option Int) (z : Int) (hz : ∀ d m, g d = some m → m = z) (k : Nat) : (spTo g k).length = runsTo g k ∧ (∀ x ∈ spTo g k, x.m = z) ∧ (0 < k → (g ((k : Int) - 1)).isSome = true → ∃ init x, spTo g k = init ++ [x] ∧ x.t = (k : Int)) := by
  induction k with
  | zero => exact ⟨rfl, by simp [spTo], fun h => by omega⟩
  | succ k ih =>
    obtain ⟨ih1, ih2, ih3⟩ := ih
    have hb := spTo_bd g k
    have hsp : spTo g (k + 1) = match g (k : Int) with | none => spTo g k | some m => addDay (spTo g k) (k : Int) m := rfl
    have hr : runsTo g (k + 1) = runsTo g k + if (g (k : Int)).isSome = true ∧ ¬ (0 < k ∧ (g ((k : Int) - 1)).isSome = true) then 1 else 0 := rfl
    have hk1 : ((k + 1 : Nat) : Int) - 1 = (k : Int) := by omega
    rw [hsp, hr, hk1]
    cases hg : g (k : Int) with
    | none => exact ⟨by simpa using ih1, ih2, fun _ h => by simp at h⟩
    | some m =>
      have hm := hz _ _ hg
      subst hm
      dsimp only
      rcases addDay_cases (spTo g k) (k : Int) m with ⟨init, y, hs, ht, hm, he⟩ | he
      · rw [he]
        have hprev : 0 < k ∧ (g ((k : Int) - 1)).isSome = true := by
          have hy := hb y (by rw [hs]; simp)
          have h0 : 0 < k := by omega
          refine ⟨h0, ?_⟩
          have := (spTo_day g k ((k : Int) - 1) (by omega) (by omega) m).1 ⟨y, by rw [hs]; simp, by omega, by omega, hm⟩
          rw [this]; rfl
        rw [if_neg (fun h => h.2 hprev)]
        refine ⟨by rw [← ih1, hs]; simp, ?_, fun _ _ => ⟨init, _, rfl, by dsimp only; omega⟩⟩
        intro x hx
        rcases List.mem_append.1 hx with h | h
        · exact ih2 x (by rw [hs]; simp [h])
        · simp at h; subst h; exact hm
      · rw [he]
        have hno : ¬ (0 < k ∧ (g ((k : Int) - 1)).isSome = true) := by
          rintro ⟨h0, h1⟩
          obtain ⟨init, x, hs, hx⟩ := ih3 h0 h1
          have hxm := ih2 x (by rw [hs]; simp)
          have hl := congrArg List.length he
          unfold addDay at hl
          have hlast : sAt (spTo g k) ((spTo g k).length - 1) = x := by
            rw [hs]; unfold sAt; simp
          rw [hlast, if_pos ⟨by rw [hs]; simp, hx, hxm⟩] at hl
          simp at hl
        refine ⟨by rw [List.length_append, ih1]; simp [hno], ?_, fun _ _ => ⟨spTo g k, _, rfl, by dsimp only; omega⟩⟩
        intro x hx
        rcases List.mem_append.1 hx with h | h
        · exact ih2 x h
        · simp at h; subst h; rfl
end Go.Proofs.Ytkepjoociidkcaa
