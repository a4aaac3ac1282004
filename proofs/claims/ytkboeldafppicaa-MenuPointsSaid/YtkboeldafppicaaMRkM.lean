/- Ranks and the words that have them: mathematics. -/
import Derived.Test.YtkboeldafppicaaMRank
set_option linter.unusedVariables false
namespace Go.Proofs.Ytkboeldafppicaa

section
variable (L : Nat) (rows : List (List Int)) (accs : List Bool)
/-- The rank of a word from a state on. -/
def rkF : Nat → List Int → Int
  | _, [] => 0
  | s, x :: t => sumN (fun c => wT L rows accs t.length (mN rows s c)) x.toNat + rkF (mN rows s x.toNat) t
/-- Whether a word is accepted from a state on. -/
def acF : Nat → List Int → Bool
  | s, [] => mA accs s
  | s, x :: t => acF (mN rows s x.toNat) t
/-- The letter that a rank begins with. -/
def dig (f : Nat → Int) (r : Int) : Nat := ((List.range L).find? (fun a => decide (r < sumN f (a + 1)))).getD 0
/-- The word with a rank. -/
def urD : Nat → Nat → Int → List Int
  | 0, _, _ => []
  | k + 1, s, r => (dig L (fun c => wT L rows accs k (mN rows s c)) r : Int) :: urD k (mN rows s (dig L (fun c => wT L rows accs k (mN rows s c)) r)) (r - sumN (fun c => wT L rows accs k (mN rows s c)) (dig L (fun c => wT L rows accs k (mN rows s c)) r))
end
theorem sumN_mono (f : Nat → Int) (L : Nat) (h : ∀ c, c < L → 0 ≤ f c) (a b : Nat) (hab : a ≤ b) (hb : b ≤ L) : sumN f a ≤ sumN f b := by
  induction b with
  | zero => have : a = 0 := by omega
            subst this; exact Int.le_refl _
  | succ b ih =>
    by_cases e : a = b + 1
    · subst e; exact Int.le_refl _
    · have := ih (by omega) (by omega)
      have := h b (by omega)
      rw [sumN]; omega
theorem dig_eq (f : Nat → Int) (L : Nat) (h : ∀ c, c < L → 0 ≤ f c) (r : Int) (a : Nat) (ha : a < L) (h1 : sumN f a ≤ r) (h2 : r < sumN f (a + 1)) : dig L f r = a := by
  unfold dig
  rw [List.find?_range_eq_some.2 ⟨by simpa using h2, List.mem_range.2 ha, fun j hj => by
    have := sumN_mono f L h (j + 1) a (by omega) (by omega)
    simp; omega⟩]
  rfl
theorem dig_spec (f : Nat → Int) (L : Nat) (h : ∀ c, c < L → 0 ≤ f c) (r : Int) (h0 : 0 ≤ r) (h1 : r < sumN f L) : dig L f r < L ∧ sumN f (dig L f r) ≤ r ∧ r < sumN f (dig L f r + 1) := by
  have : ∀ k, k ≤ L → r < sumN f k → ∃ a, a < k ∧ sumN f a ≤ r ∧ r < sumN f (a + 1) := by
    intro k
    induction k with
    | zero => intro _ hr; simp [sumN] at hr; omega
    | succ k ih =>
      intro hk hr
      by_cases hh : r < sumN f k
      · obtain ⟨a, g1, g2, g3⟩ := ih (by omega) hh
        exact ⟨a, by omega, g2, g3⟩
      · exact ⟨k, by omega, by omega, hr⟩
  obtain ⟨a, g1, g2, g3⟩ := this L (Nat.le_refl _) h1
  rw [dig_eq f L h r a g1 g2 g3]
  exact ⟨g1, g2, g3⟩
section
variable {L : Nat} {rows : List (List Int)} {accs : List Bool}
theorem wT_nn (hg : GoodM L rows accs) (k s : Nat) (hs : s < rows.length) : 0 ≤ wT L rows accs k s := (wT_bd hg k s hs).1
theorem rkF_bd (hg : GoodM L rows accs) (l : List Int) : ∀ s, s < rows.length → allB l L = true → acF rows accs s l = true → 0 ≤ rkF L rows accs s l ∧ rkF L rows accs s l < wT L rows accs l.length s ∧ urD L rows accs l.length s (rkF L rows accs s l) = l := by
  induction l with
  | nil => intro s hs _ ha; rw [acF] at ha; simp [rkF, wT, urD, ha]
  | cons x t ih =>
    intro s hs hl ha
    obtain ⟨hx0, hx1⟩ := allB_iff.1 hl x (by simp)
    have ht : allB t L = true := allB_iff.2 (fun y hy => allB_iff.1 hl y (by simp [hy]))
    have hxn : x.toNat < L := by omega
    have hn := (hg.ent s x.toNat hs hxn).1
    obtain ⟨h1, h2, h3⟩ := ih _ hn ht ha
    have hf : ∀ c, c < L → 0 ≤ (fun c => wT L rows accs t.length (mN rows s c)) c := fun c hc => wT_nn hg _ _ (hg.ent s c hs hc).1
    have hs1 : sumN (fun c => wT L rows accs t.length (mN rows s c)) (x.toNat + 1) = sumN (fun c => wT L rows accs t.length (mN rows s c)) x.toNat + wT L rows accs t.length (mN rows s x.toNat) := rfl
    have hm := sumN_mono _ L hf (x.toNat + 1) L (by omega) (Nat.le_refl _)
    have h0 := sumN_mono _ L hf 0 x.toNat (by omega) (by omega)
    rw [show sumN (fun c => wT L rows accs t.length (mN rows s c)) 0 = 0 from rfl] at h0
    have hd := dig_eq _ L hf (rkF L rows accs s (x :: t)) x.toNat hxn (by rw [rkF]; omega) (by rw [rkF, hs1]; omega)
    refine ⟨by rw [rkF]; omega, by rw [rkF, List.length_cons, wT]; omega, ?_⟩
    rw [List.length_cons, urD, hd, rkF]
    rw [show sumN (fun c => wT L rows accs t.length (mN rows s c)) x.toNat + rkF L rows accs (mN rows s x.toNat) t - sumN (fun c => wT L rows accs t.length (mN rows s c)) x.toNat = rkF L rows accs (mN rows s x.toNat) t by omega, h3]
    congr 1
    omega
theorem urD_spec (hg : GoodM L rows accs) (k : Nat) : ∀ s r, s < rows.length → 0 ≤ r → r < wT L rows accs k s → (urD L rows accs k s r).length = k ∧ allB (urD L rows accs k s r) L = true ∧ acF rows accs s (urD L rows accs k s r) = true ∧ rkF L rows accs s (urD L rows accs k s r) = r := by
  induction k with
  | zero =>
    intro s r hs h0 h1
    rw [wT] at h1
    cases hb : mA accs s with
    | false => rw [hb] at h1; simp at h1; omega
    | true => rw [hb] at h1; simp at h1; exact ⟨rfl, rfl, hb, by rw [urD, rkF]; omega⟩
  | succ k ih =>
    intro s r hs h0 h1
    have hf : ∀ c, c < L → 0 ≤ (fun c => wT L rows accs k (mN rows s c)) c := fun c hc => wT_nn hg _ _ (hg.ent s c hs hc).1
    obtain ⟨d1, d2, d3⟩ := dig_spec _ L hf r h0 (by rw [wT] at h1; exact h1)
    rw [urD]
    generalize dig L (fun c => wT L rows accs k (mN rows s c)) r = a at *
    rw [show sumN (fun c => wT L rows accs k (mN rows s c)) (a + 1) = sumN (fun c => wT L rows accs k (mN rows s c)) a + wT L rows accs k (mN rows s a) from rfl] at d3
    obtain ⟨g1, g2, g3, g4⟩ := ih (mN rows s a) (r - sumN (fun c => wT L rows accs k (mN rows s c)) a) (hg.ent s a hs d1).1 (by omega) (by omega)
    refine ⟨by rw [List.length_cons, g1], ?_, ?_, ?_⟩
    · refine allB_iff.2 (fun y hy => ?_)
      rcases List.mem_cons.1 hy with e | e
      · rw [e]; omega
      · exact allB_iff.1 g2 y e
    · rw [acF, Int.toNat_natCast]; exact g3
    · rw [rkF, Int.toNat_natCast, g1, g4]; omega
theorem runK_cons (rows : List (List Int)) (s : Nat) (x : Int) (t : List Int) (k : Nat) : runK rows s (x :: t) (k + 1) = runK rows (mN rows s x.toNat) t k := by
  induction k with
  | zero => rfl
  | succ k ih => rw [runK, ih, runK]; simp
theorem acF_runK (rows : List (List Int)) (accs : List Bool) (l : List Int) : ∀ s, acF rows accs s l = mA accs (runK rows s l l.length) := by
  induction l with
  | nil => intro s; rfl
  | cons x t ih => intro s; rw [acF, ih, List.length_cons, runK_cons]
theorem rkK_rkF (L : Nat) (rows : List (List Int)) (accs : List Bool) (l : List Int) (i : Nat) (hi : i ≤ l.length) : rkK L rows accs l i + rkF L rows accs (runK rows 0 l i) (l.drop i) = rkF L rows accs 0 l := by
  induction i with
  | zero => simp [rkK, runK]
  | succ i ih =>
    rw [← ih (by omega), rkK, runK, List.drop_eq_getElem_cons (show i < l.length by omega), rkF]
    have e1 : l[i]?.getD 0 = l[i] := by rw [List.getElem?_eq_getElem (by omega)]; rfl
    have e2 : (l.drop (i + 1)).length = l.length - i - 1 := by rw [List.length_drop]; omega
    rw [e1, e2]
    omega
theorem rkK_full (L : Nat) (rows : List (List Int)) (accs : List Bool) (l : List Int) : rkK L rows accs l l.length = rkF L rows accs 0 l := by
  have := rkK_rkF L rows accs l l.length (Nat.le_refl _)
  rw [List.drop_length, rkF] at this
  omega
theorem runK_take (rows : List (List Int)) (s : Nat) (l : List Int) (n k : Nat) (hk : k ≤ n) (hn : n ≤ l.length) : runK rows s (l.take n) k = runK rows s l k := by
  induction k with
  | zero => rfl
  | succ k ih => rw [runK, runK, ih (by omega), List.getElem?_take_of_lt (by omega)]
end
end Go.Proofs.Ytkboeldafppicaa
