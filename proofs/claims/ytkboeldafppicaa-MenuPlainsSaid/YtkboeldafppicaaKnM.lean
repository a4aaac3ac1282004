/- The chapter's examples: the plain forms of Apart(2, 2) and Apart(3, 2). -/
import Derived.Test.YtkboeldafppicaaApartP
import Derived.Test.YtkboeldafppicaaMRank
set_option linter.unusedVariables false
namespace Go.Proofs.Ytkboeldafppicaa
open Go.RowKit

def smN (n s c : Nat) : Nat := if s = n + 1 then n + 1 else if s = c + 1 then n + 1 else c + 1
def smA (n s : Nat) : Bool := !(s == n + 1)
def smR (n : Nat) (s : Nat) (r : Rec) : Prop := (s = 0 ∧ r = (-1, -1, false)) ∨ (∃ c, c < n ∧ s = c + 1 ∧ r.1 = (c : Int) ∧ r.2.2 = false) ∨ (s = n + 1 ∧ r.2.2 = true)
theorem smR_next (n s : Nat) (r : Rec) (c : Nat) (h : smR n s r) (hc : c < n) : smR n (smN n s c) (apN 2 r c) := by
  obtain ⟨a, b, l⟩ := r
  rcases h with ⟨rfl, h⟩ | ⟨d, hd, rfl, h1, h2⟩ | ⟨rfl, h⟩
  · simp only [Prod.mk.injEq] at h
    obtain ⟨rfl, rfl, rfl⟩ := h
    refine .inr (.inl ⟨c, hc, ?_, ?_, ?_⟩)
    · unfold smN; rw [if_neg (by omega), if_neg (by omega)]
    · unfold apN; rw [if_neg (by simp)]
    · unfold apN; rw [if_neg (by simp)]
  · dsimp only at h1 h2
    subst h1; subst h2
    by_cases e : c = d
    · subst e
      refine .inr (.inr ⟨?_, ?_⟩)
      · unfold smN; rw [if_neg (by omega), if_pos rfl]
      · unfold apN; rw [if_pos (by simp)]
    · refine .inr (.inl ⟨c, hc, ?_, ?_, ?_⟩)
      · unfold smN; rw [if_neg (by omega), if_neg (by omega)]
      · unfold apN; rw [if_neg (by simp; omega)]
      · unfold apN; rw [if_neg (by simp; omega)]
  · dsimp only at h
    subst h
    refine .inr (.inr ⟨?_, ?_⟩)
    · unfold smN; rw [if_pos rfl]
    · unfold apN; rw [if_pos (.inl rfl)]
theorem smR_acc (n s : Nat) (r : Rec) (h : smR n s r) : smA n s = apK r := by
  obtain ⟨a, b, l⟩ := r
  unfold smA apK
  rcases h with ⟨rfl, h⟩ | ⟨d, hd, rfl, h1, h2⟩ | ⟨rfl, h⟩
  · simp only [Prod.mk.injEq] at h
    obtain ⟨rfl, rfl, rfl⟩ := h
    simp
  · dsimp only at h2
    subst h2
    simp; omega
  · dsimp only at h
    subst h; simp
theorem apL_sm (n : Nat) : apL n 2 = langOf n (smN n) (smA n) 0 := (langOf_rel (R := smR n) n (smN n) (apN 2) (smA n) apK (smR_next n) (smR_acc n) 0 (-1, -1, false) (.inl ⟨rfl, rfl⟩)).symm
theorem sm_canon (n : Nat) (hn : n = 2 ∨ n = 3) (i : Nat) : (listTo n (smN n) (smA n) 0 i).1.length = (canon n (apL n 2) i).1.length ∧ (listTo n (smN n) (smA n) 0 i).2 = (canon n (apL n 2) i).2 := by
  have := canon_of (L := n) (next := smN n) (acc := smA n) (s0 := 0) (fun s => s < n + 2) (by omega) (fun s c hs hc => by unfold smN; split <;> (try split) <;> omega) (f := langOf n (smN n) (smA n)) (fun s c _ hc => (langOf_dv s c hc).symm) (fun s _ => (langOf_ep s).symm)
    (fun s t hs ht e => by
      have he := langOf_eq s t |>.1 e
      have h0 := he [] (wd_nil n)
      have h1 : ∀ c, c < n → smA n (smN n s c) = smA n (smN n t c) := fun c hc => he [c] (wd_cons.2 ⟨hc, wd_nil n⟩)
      have hall : ∀ n, n = 2 ∨ n = 3 → ∀ s, s < n + 2 → ∀ t, t < n + 2 → smA n s = smA n t → (∀ c, c < n → smA n (smN n s c) = smA n (smN n t c)) → s = t := by
        intro n hn
        rcases hn with rfl | rfl
        · decide
        · decide
      exact hall n hn s hs t ht h0 h1)
    i
  rw [← apL_sm] at this
  exact ⟨by have h := congrArg List.length this.1; rwa [List.length_map] at h, this.2⟩
def rows3 : List (List Int) := [[1, 2, 3], [4, 2, 3], [1, 4, 3], [1, 2, 4], [4, 4, 4]]
def accs3 : List Bool := [true, true, true, true, false]
theorem full2 : FullC 2 (apL 2 2) 4 := ⟨by rw [← (sm_canon 2 (.inl rfl) 4).1]; decide, fun j hj => by
  rw [← (sm_canon 2 (.inl rfl) j).1]
  have : ∀ j, j < 4 → j < (listTo 2 (smN 2) (smA 2) 0 j).1.length := by decide
  exact this j hj⟩
theorem full3 : FullC 3 (apL 3 2) 5 := ⟨by rw [← (sm_canon 3 (.inr rfl) 5).1]; decide, fun j hj => by
  rw [← (sm_canon 3 (.inr rfl) j).1]
  have : ∀ j, j < 5 → j < (listTo 3 (smN 3) (smA 3) 0 j).1.length := by decide
  exact this j hj⟩
theorem canon3 : (canon 3 (apL 3 2) 5).2.1 = rows3 ∧ (canon 3 (apL 3 2) 5).2.2 = accs3 := by
  rw [← (sm_canon 3 (.inr rfl) 5).2]
  decide
theorem known3_nums : lenE 3 rows3 accs3 3 = 0 ∧ cntA 3 rows3 accs3 3 = 12 ∧ rnkE 3 rows3 accs3 [0, 2, 0] = 0 ∧ rnkA 3 rows3 accs3 [0, 2, 0] = 2 := by
  decide
end Go.Proofs.Ytkboeldafppicaa
