/- The document's plain form as the plain form of a language: mathematics. -/
import Derived.Test.YtkboeldafppicaaPlainM
import Derived.Test.YtkboeldafppicaaKindsM
set_option linter.unusedVariables false
namespace Go.Proofs.Ytkboeldafppicaa

theorem idxOf_map {S T : Type} [DecidableEq S] [DecidableEq T] (f : Nat → S) (g : Nat → T) (l : List Nat) (t : Nat) (h : ∀ s ∈ l, f s = f t ↔ g s = g t) : (f t ∈ l.map f ↔ g t ∈ l.map g) ∧ (l.map f).idxOf (f t) = (l.map g).idxOf (g t) := by
  induction l with
  | nil => simp
  | cons a l ih =>
    obtain ⟨h1, h2⟩ := ih (fun s hs => h s (by simp [hs]))
    have ha := h a (by simp)
    refine ⟨?_, ?_⟩
    · rw [List.map_cons, List.map_cons, List.mem_cons, List.mem_cons, h1]
      exact or_congr ⟨fun e => (ha.1 e.symm).symm, fun e => (ha.2 e.symm).symm⟩ Iff.rfl
    · rw [List.map_cons, List.map_cons, List.idxOf_cons, List.idxOf_cons, h2]
      by_cases e : f a = f t
      · have e2 := ha.1 e
        simp [e, e2]
      · have e2 : ¬ g a = g t := fun hh => e (ha.2 hh)
        have e3 : (f a == f t) = false := by simpa using e
        have e4 : (g a == g t) = false := by simpa using e2
        rw [e3, e4]
/-- The state behind k letters of the row of s: what the document's inner loop has made of the list of states and the row. -/
def rpRow (L : Nat) (rows : List (List Int)) (kd : Nat → Nat) (s : Nat) (st : List Nat) : Nat → List Nat × List Int
  | 0 => (st, [])
  | c + 1 => if kd (mN rows s c) ∈ (rpRow L rows kd s st c).1.map kd then ((rpRow L rows kd s st c).1, (rpRow L rows kd s st c).2 ++ [((((rpRow L rows kd s st c).1.map kd).idxOf (kd (mN rows s c)) : Nat) : Int)])
      else ((rpRow L rows kd s st c).1 ++ [mN rows s c], (rpRow L rows kd s st c).2 ++ [(((rpRow L rows kd s st c).1.length : Nat) : Int)])
section
variable {L : Nat} {rows : List (List Int)} {accs : List Bool} {kd : Nat → Nat}
theorem rpRow_canon (hcl : ∀ s c, s < rows.length → c < L → mN rows s c < rows.length) (hkd : ∀ s t, s < rows.length → t < rows.length → (mLang L rows accs s = mLang L rows accs t ↔ kd s = kd t)) (s : Nat) (hs : s < rows.length) (st : List Nat) (hst : ∀ t ∈ st, t < rows.length) (c : Nat) (hc : c ≤ L) :
    (rpRow L rows kd s st c).1.map (mLang L rows accs) = (rowTo dv (mLang L rows accs s) (st.map (mLang L rows accs)) c).1 ∧ (rpRow L rows kd s st c).2 = (rowTo dv (mLang L rows accs s) (st.map (mLang L rows accs)) c).2 ∧ ∀ t ∈ (rpRow L rows kd s st c).1, t < rows.length := by
  induction c with
  | zero => exact ⟨rfl, rfl, hst⟩
  | succ c ih =>
    obtain ⟨h1, h2, h3⟩ := ih (by omega)
    have hd : dv (mLang L rows accs s) c = mLang L rows accs (mN rows s c) := langOf_dv s c (by omega)
    have hn := hcl s c hs (by omega)
    obtain ⟨k1, k2⟩ := idxOf_map (mLang L rows accs) kd (rpRow L rows kd s st c).1 (mN rows s c) (fun t ht => hkd t _ (h3 t ht) hn)
    rw [rpRow]
    by_cases hm : kd (mN rows s c) ∈ (rpRow L rows kd s st c).1.map kd
    · rw [if_pos hm, rowTo_old _ _ _ _ (by rw [hd, ← h1]; exact k1.2 hm)]
      refine ⟨h1, ?_, h3⟩
      dsimp only
      rw [h2, hd, ← h1, k2]
    · rw [if_neg hm, rowTo_new _ _ _ _ (by rw [hd, ← h1]; exact fun hh => hm (k1.1 hh))]
      refine ⟨?_, ?_, ?_⟩
      · dsimp only; rw [List.map_append, h1, hd]; rfl
      · dsimp only; rw [h2, ← h1, List.length_map]
      · intro t ht
        rcases List.mem_append.1 ht with h | h
        · exact h3 t h
        · simp at h; subst h; exact hn
/-- The states, rows and acceptances behind the first i states. -/
def rpTo (L : Nat) (rows : List (List Int)) (accs : List Bool) (kd : Nat → Nat) : Nat → List Nat × List (List Int) × List Bool
  | 0 => ([0], [], [])
  | i + 1 => ((rpRow L rows kd ((rpTo L rows accs kd i).1[i]?.getD 0) (rpTo L rows accs kd i).1 L).1, (rpTo L rows accs kd i).2.1 ++ [(rpRow L rows kd ((rpTo L rows accs kd i).1[i]?.getD 0) (rpTo L rows accs kd i).1 L).2], (rpTo L rows accs kd i).2.2 ++ [mA accs ((rpTo L rows accs kd i).1[i]?.getD 0)])
theorem rpTo_canon (hcl : ∀ s c, s < rows.length → c < L → mN rows s c < rows.length) (hpos : 0 < rows.length) (hkd : ∀ s t, s < rows.length → t < rows.length → (mLang L rows accs s = mLang L rows accs t ↔ kd s = kd t)) (i : Nat) :
    (rpTo L rows accs kd i).1.map (mLang L rows accs) = (canon L (mLang L rows accs 0) i).1 ∧ (rpTo L rows accs kd i).2 = (canon L (mLang L rows accs 0) i).2 ∧ ∀ t ∈ (rpTo L rows accs kd i).1, t < rows.length := by
  induction i with
  | zero => exact ⟨rfl, rfl, fun t ht => by simp [rpTo] at ht; omega⟩
  | succ i ih =>
    obtain ⟨h1, h2, h3⟩ := ih
    have hs : (rpTo L rows accs kd i).1[i]?.getD 0 < rows.length := by
      cases h : (rpTo L rows accs kd i).1[i]? with
      | none => exact hpos
      | some t => exact h3 t (List.mem_of_getElem? h)
    have hg : (canon L (mLang L rows accs 0) i).1[i]?.getD (mLang L rows accs 0) = mLang L rows accs ((rpTo L rows accs kd i).1[i]?.getD 0) := by
      rw [← h1, List.getElem?_map]
      cases (rpTo L rows accs kd i).1[i]? <;> rfl
    obtain ⟨k1, k2, k3⟩ := rpRow_canon hcl hkd _ hs (rpTo L rows accs kd i).1 h3 L (Nat.le_refl _)
    rw [h1] at k1 k2
    have he : canon L (mLang L rows accs 0) (i + 1) = ((rowTo dv ((canon L (mLang L rows accs 0) i).1[i]?.getD (mLang L rows accs 0)) (canon L (mLang L rows accs 0) i).1 L).1, (canon L (mLang L rows accs 0) i).2.1 ++ [(rowTo dv ((canon L (mLang L rows accs 0) i).1[i]?.getD (mLang L rows accs 0)) (canon L (mLang L rows accs 0) i).1 L).2], (canon L (mLang L rows accs 0) i).2.2 ++ [ep ((canon L (mLang L rows accs 0) i).1[i]?.getD (mLang L rows accs 0))]) := rfl
    rw [he, hg, rpTo]
    refine ⟨k1, ?_, k3⟩
    dsimp only
    rw [k2, h2]
    congr 3
    rw [show ep (mLang L rows accs ((rpTo L rows accs kd i).1[i]?.getD 0)) = mA accs ((rpTo L rows accs kd i).1[i]?.getD 0) from langOf_ep _]
theorem rpTo_len (i : Nat) : (rpTo L rows accs kd i).2.1.length = i ∧ (rpTo L rows accs kd i).2.2.length = i := by
  induction i with
  | zero => exact ⟨rfl, rfl⟩
  | succ i ih => rw [rpTo]; simp [ih]
theorem rpRow_len (s : Nat) (st : List Nat) (c : Nat) : (rpRow L rows kd s st c).2.length = c := by
  induction c with
  | zero => rfl
  | succ c ih => rw [rpRow]; split <;> simp [ih]
theorem rpRow_pre (s : Nat) (st : List Nat) (c : Nat) : st <+: (rpRow L rows kd s st c).1 := by
  induction c with
  | zero => exact List.prefix_refl _
  | succ c ih => rw [rpRow]; split; exact ih; exact ih.trans (List.prefix_append _ _)
end
end Go.Proofs.Ytkboeldafppicaa
