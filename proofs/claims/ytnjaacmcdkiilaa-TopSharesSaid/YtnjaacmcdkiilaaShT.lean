/- The document's own Claimer, Giver, IsFair of chapter 4. -/
import Derived.Test.YtnjaacmcdkiilaaShS
import Derived.Test.YtnjaacmcdkiilaaShOrdM
import Derived.Deep.DeepCutAuto
set_option linter.unusedVariables false
namespace Go.Proofs.Ytnjaacmcdkiilaa
open Go.RowKit


/-- The document's own search for who gives back first: the number of the school plus one, 0 if there is none. -/
def giveTo (kind : Int) (os ms : List Int) : Nat → Int
  | 0 => -1
  | k + 1 => if 0 < at0 ms k ∧ (giveTo kind os ms k < 0 ∨ szC (at0 os k) (stepV kind (at0 ms k - 1)) (at0 os (giveTo kind os ms k).toNat) (stepV kind (at0 ms (giveTo kind os ms k).toNat - 1)) ≤ 0) then (k : Int) else giveTo kind os ms k
/-- What the search holds on to. -/
theorem giveTo_spec {kind : Int} {os ms : List Int} (ho : okO os = true) (hm : okMs os ms = true) (k : Nat) (hk : k ≤ os.length) :
    (giveTo kind os ms k = -1 ∧ heldTo kind os ms k = []) ∨ ∃ j : Nat, j < k ∧ giveTo kind os ms k = (j : Int) ∧ 0 < at0 ms j ∧ ∀ c ∈ heldTo kind os ms k, 0 ≤ rankL c (heldC kind os ms j) := by
  induction k with
  | zero => exact .inl ⟨rfl, rfl⟩
  | succ k ih =>
    have ih := ih (by omega)
    rw [giveTo, heldTo]
    by_cases hp : 0 < at0 ms k
    · rw [if_pos hp]
      have hgk := heldC_good (kind := kind) ho hm (by omega : k < os.length) hp
      rcases ih with ⟨h1, h2⟩ | ⟨j, hj, h1, h2, h3⟩
      · right
        rw [h1, if_pos ⟨hp, .inl (by omega)⟩]
        refine ⟨k, by omega, rfl, hp, fun c hc => ?_⟩
        rw [h2] at hc
        simp at hc
        subst hc
        rw [rankL_self]; omega
      · right
        rw [h1, Int.toNat_natCast]
        have hgj := heldC_good (kind := kind) ho hm (by omega : j < os.length) h2
        have hs : szC (at0 os k) (stepV kind (at0 ms k - 1)) (at0 os j) (stepV kind (at0 ms j - 1)) = sizeL (heldC kind os ms k) (heldC kind os ms j) := rfl
        rw [hs]
        by_cases hz : sizeL (heldC kind os ms k) (heldC kind os ms j) ≤ 0
        · rw [if_pos ⟨hp, .inr hz⟩]
          refine ⟨k, by omega, rfl, hp, fun c hc => ?_⟩
          have hr : 0 ≤ rankL (heldC kind os ms j) (heldC kind os ms k) := by
            have hn := sizeL_neg (heldC kind os ms k) (heldC kind os ms j)
            unfold rankL
            split
            · rw [cmpI_ge]; simp only [heldC]; omega
            · omega
          rcases List.mem_append.1 hc with hc | hc
          · have hgc := heldTo_good (kind := kind) ho hm k (by omega) c hc
            exact rankL_trans hgc hgj hgk (h3 c hc) hr
          · simp at hc; subst hc; rw [rankL_self]; omega
        · rw [if_neg (by rintro ⟨_, h | h⟩ <;> omega)]
          refine ⟨j, by omega, rfl, h2, fun c hc => ?_⟩
          rcases List.mem_append.1 hc with hc | hc
          · exact h3 c hc
          · simp at hc; subst hc
            have := rankL_pos (c := heldC kind os ms k) (d := heldC kind os ms j) (by omega)
            omega
    · rw [if_neg hp, if_neg (fun h => hp h.1)]
      rcases ih with h | ⟨j, hj, h1, h2, h3⟩
      · exact .inl h
      · exact .inr ⟨j, by omega, h1, h2, h3⟩
theorem giver_give {kind : Int} {os ms : List Int} (ho : okO os = true) (hm : okMs os ms = true) : (heldL kind os ms = [] ∧ giveTo kind os ms os.length = -1) ∨ (heldL kind os ms ≠ [] ∧ 0 ≤ giveTo kind os ms os.length ∧ (lastMin rankL (heldL kind os ms)).1 = giveTo kind os ms os.length) := by
  rcases giveTo_spec (kind := kind) ho hm os.length (Nat.le_refl _) with ⟨h1, h2⟩ | ⟨j, hj, h1, h2, h3⟩
  · exact .inl ⟨h2, h1⟩
  · right
    have hmem : heldC kind os ms j ∈ heldL kind os ms := (heldTo_mem _ _ _ _ _).2 ⟨j, hj, h2, rfl⟩
    have hne : heldL kind os ms ≠ [] := fun h => by rw [h] at hmem; cases hmem
    have hl1 := heldL_ne hne
    have hgd : ∀ c ∈ heldL kind os ms, GoodC c := heldTo_good ho hm _ (Nat.le_refl _)
    refine ⟨hne, by omega, ?_⟩
    obtain ⟨p, hp, hpe⟩ := mem_clAt hmem
    have hle := minTo_le (f := rankL) rankL_neg (fun c d e a b c' => rankL_trans a b c') hgd ((heldL kind os ms).length - 1) (by omega) p (by omega)
    rw [hpe, show minTo rankL (heldL kind os ms) ((heldL kind os ms).length - 1) = lastMin rankL (heldL kind os ms) from rfl] at hle
    have hx : lastMin rankL (heldL kind os ms) ∈ heldL kind os ms := minTo_mem _ _ _ (by omega)
    have h4 := h3 _ hx
    have hn := rankL_neg (heldC kind os ms j) (lastMin rankL (heldL kind os ms))
    have := rankL_zero (c := heldC kind os ms j) (d := lastMin rankL (heldL kind os ms)) (by omega)
    rw [h1, ← this]; rfl
theorem giverL_give {kind : Int} {os ms : List Int} (hd : goodV os ms kind = true) : giverL os ms kind = if giveTo kind os ms os.length < 0 then (0, false) else (giveTo kind os ms os.length, true) := by
  obtain ⟨g1, g2, g3⟩ := goodV_ok hd
  rw [giverL, if_pos hd]
  rcases giver_give (kind := kind) g1 g2 with ⟨h1, h2⟩ | ⟨h1, h2, h3⟩
  · rw [if_pos h1, if_pos (by omega)]
  · rw [if_neg h1, if_neg (by omega), h3]

def FairP (kind : Int) (os ms : List Int) (i k : Nat) : Prop := i ≠ k → 0 < at0 ms i → 0 ≤ sizeL (heldC kind os ms i) (nextC kind os ms k)
theorem lastMax_mem {f : ClaimL → ClaimL → Int} {l : List ClaimL} (h : 1 ≤ l.length) : lastMax f l ∈ l := maxTo_mem f l _ (by omega)
theorem lastMin_mem {f : ClaimL → ClaimL → Int} {l : List ClaimL} (h : 1 ≤ l.length) : lastMin f l ∈ l := minTo_mem f l _ (by omega)
theorem nextL_len (kind : Int) (os ms : List Int) : (nextL kind os ms).length = os.length := nextTo_len _ _ _ _
theorem nextL_mem {kind : Int} {os ms : List Int} {c : ClaimL} (h : c ∈ nextL kind os ms) : ∃ k, k < os.length ∧ c = nextC kind os ms k := by
  obtain ⟨j, hj, rfl⟩ := mem_clAt h
  rw [nextL_len] at hj
  exact ⟨j, hj, nextTo_at _ _ _ _ _ hj⟩
theorem nextC_mem (kind : Int) (os ms : List Int) {k : Nat} (h : k < os.length) : nextC kind os ms k ∈ nextL kind os ms := by
  rw [← nextTo_at kind os ms os.length k h]
  exact clAt_mem (nextL kind os ms) _ (by rw [nextL_len]; exact h)
theorem lastMin_le {l : List ClaimL} (hg : ∀ c ∈ l, GoodC c) {c : ClaimL} (hc : c ∈ l) : 0 ≤ sizeL c (lastMin sizeL l) := by
  obtain ⟨j, hj, rfl⟩ := mem_clAt hc
  exact minTo_le (f := sizeL) sizeL_neg (fun c d e a b c' => sizeL_trans a b c') hg (l.length - 1) (by omega) j (by omega)
theorem lastMax_ge {l : List ClaimL} (hg : ∀ c ∈ l, GoodC c) {c : ClaimL} (hc : c ∈ l) : 0 ≤ sizeL (lastMax sizeL l) c := by
  obtain ⟨j, hj, rfl⟩ := mem_clAt hc
  exact maxTo_ge (f := sizeL) sizeL_neg (fun c d e a b c' => sizeL_trans a b c') hg (l.length - 1) (by omega) j (by omega)
theorem falls_size {kind : Int} {os ms : List Int} (ho : okO os = true) (hm : okMs os ms = true) {k : Nat} (hk : k < os.length) (hp : 0 < at0 ms k) : 0 < sizeL (heldC kind os ms k) (nextC kind os ms k) := by
  have g := heldC_good (kind := kind) ho hm hk hp
  refine szC_falls (by have := g.2.1; omega) g.2.2.1 ?_
  have := stepV_lt (kind := kind) (k := at0 ms k - 1) (by omega)
  rw [Int.sub_add_cancel] at this
  exact this
theorem fair_iff {kind : Int} {os ms : List Int} (ho : okO os = true) (hm : okMs os ms = true) : fairM os ms kind = true ↔ ∀ i k, i < os.length → k < os.length → FairP kind os ms i k := by
  have h1 := (okO_len ho).1
  have hgh : ∀ c ∈ heldL kind os ms, GoodC c := heldTo_good ho hm _ (Nat.le_refl _)
  have hgn : ∀ c ∈ nextL kind os ms, GoodC c := nextTo_good ho hm _ (Nat.le_refl _)
  have hnl := nextL_len kind os ms
  have hxm := lastMax_mem (f := sizeL) (l := nextL kind os ms) (by omega)
  unfold fairM
  by_cases hne : heldL kind os ms = []
  · rw [if_pos hne]
    refine ⟨fun _ i k hi hk _ hp => ?_, fun _ => rfl⟩
    have hmem : heldC kind os ms i ∈ heldL kind os ms := (heldTo_mem _ _ _ _ _).2 ⟨i, hi, hp, rfl⟩
    rw [hne] at hmem; cases hmem
  · rw [if_neg hne, decide_eq_true_iff]
    have hl1 := heldL_ne hne
    have hnm := lastMin_mem (f := sizeL) hl1
    constructor
    · intro h i k hi hk _ hp
      have hmem : heldC kind os ms i ∈ heldL kind os ms := (heldTo_mem _ _ _ _ _).2 ⟨i, hi, hp, rfl⟩
      have hmk := nextC_mem kind os ms hk
      exact sizeL_trans (hgh _ hmem) (hgh _ hnm) (hgn _ hmk) (lastMin_le hgh hmem) (sizeL_trans (hgh _ hnm) (hgn _ hxm) (hgn _ hmk) h (lastMax_ge hgn hmk))
    · intro h
      obtain ⟨i, hi, hp, e1⟩ := (heldTo_mem _ _ _ _ _).1 hnm
      obtain ⟨k, hk, e2⟩ := nextL_mem hxm
      rw [e1, e2]
      by_cases hik : i = k
      · subst hik
        have := falls_size (kind := kind) ho hm hk hp
        omega
      · exact h i k hi hk hik hp




end Go.Proofs.Ytnjaacmcdkiilaa
