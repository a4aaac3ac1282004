/- Plain: what exchanges make of items. -/
import Derived.Test.YtdgleicpcjfnoaaProofN
import Derived.Test.YtdgleicpcjfnoaaSearchM
set_option linter.unusedVariables false
namespace Go.Proofs.Ytdgleicpcjfnoaa

/-- Two strictly ascending lists with the same elements are one. -/
theorem asc_ext : ∀ (l m : List Int), l.Pairwise (· < ·) → m.Pairwise (· < ·) → (∀ x, x ∈ l ↔ x ∈ m) → l = m
  | [], [], _, _, _ => rfl
  | [], y :: m, _, _, h => by have := (h y).2 (by simp); simp at this
  | x :: l, [], _, _, h => by have := (h x).1 (by simp); simp at this
  | x :: l, y :: m, hl, hm, h => by
    obtain ⟨l1, l2⟩ := List.pairwise_cons.1 hl
    obtain ⟨m1, m2⟩ := List.pairwise_cons.1 hm
    have e : x = y := by
      have a := (h x).1 (by simp)
      have b := (h y).2 (by simp)
      rw [List.mem_cons] at a b
      rcases a with a | a
      · exact a
      · rcases b with b | b
        · exact b.symm
        · have := m1 x a; have := l1 y b; omega
    subst e
    rw [asc_ext l m l2 m2 (fun z => ?_)]
    constructor
    · intro hz
      have := (h z).1 (by simp [hz])
      rw [List.mem_cons] at this
      rcases this with rfl | this
      · have := l1 z hz; omega
      · exact this
    · intro hz
      have := (h z).2 (by simp [hz])
      rw [List.mem_cons] at this
      rcases this with rfl | this
      · have := m1 z hz; omega
      · exact this
theorem mem_bits_mask (l : List Int) (h : ∀ x ∈ l, 0 ≤ x ∧ x < 64) (x : Int) : x ∈ bitsTo (maskL l) 64 ↔ x ∈ l := by
  rw [mem_bitsTo]
  constructor
  · rintro ⟨i, rfl, hi, hb⟩
    rw [testBit_maskL, decide_eq_true_iff] at hb
    obtain ⟨y, hy, e⟩ := hb
    have := h y hy
    obtain rfl : y = (i : Int) := by omega
    exact hy
  · intro hx
    have := h x hx
    exact ⟨x.toNat, by omega, by omega, by rw [testBit_maskL, decide_eq_true_iff]; exact ⟨x, hx, rfl⟩⟩
theorem bits_of_asc (l : List Int) (hs : l.Pairwise (· < ·)) (h : ∀ x ∈ l, 0 ≤ x ∧ x < 64) : bitsTo (maskL l) 64 = l :=
  asc_ext _ _ (bitsTo_sorted _ _) hs (mem_bits_mask l h)
theorem bits_congr {l m : List Int} (h : ∀ x, x ∈ l ↔ x ∈ m) : bitsTo (maskL l) 64 = bitsTo (maskL m) 64 := by
  have : maskL l = maskL m := by
    apply Nat.eq_of_testBit_eq
    intro i
    rw [testBit_maskL, testBit_maskL, decide_eq_decide]
    exact ⟨fun ⟨x, h1, h2⟩ => ⟨x, (h x).1 h1, h2⟩, fun ⟨x, h1, h2⟩ => ⟨x, (h x).2 h1, h2⟩⟩
  rw [this]
/-- The parts when the item s.1 among them is exchanged for s.2. -/
def exP (s : Int × Int) (ps : List Int) : List Int := bitsTo (maskL (s.2 :: ps.filter (fun x => decide (x ≠ s.1)))) 64
def exTo (s : Int × Int) (its : List ItemL) : Nat → Option (List ItemL)
  | 0 => some its
  | k + 1 => (exTo s its k).bind fun l => if memB s.1 (l[k]?.getD ([], [])).1 then (if (k : Int) ≤ s.2 then none else some (l.set k (exP s (l[k]?.getD ([], [])).1, (l[k]?.getD ([], [])).2))) else some l
def exL (its : List ItemL) (sw : List (Int × Int)) : Nat → Option (List ItemL)
  | 0 => some its
  | k + 1 => (exL its sw k).bind fun l => exTo (sw[k]?.getD (0, 0)) l l.length
theorem exTo_none {s : Int × Int} {its : List ItemL} {k : Nat} (h : exTo s its k = none) : ∀ n, k ≤ n → exTo s its n = none := by
  intro n hn
  induction n with
  | zero => have e0 : k = 0 := (by omega); rw [e0] at h; exact h
  | succ n ih =>
    by_cases e : k = n + 1
    · subst e; exact h
    · rw [exTo, ih (by omega)]; rfl
theorem exL_none {its : List ItemL} {sw : List (Int × Int)} {k : Nat} (h : exL its sw k = none) : ∀ n, k ≤ n → exL its sw n = none := by
  intro n hn
  induction n with
  | zero => have e0 : k = 0 := (by omega); rw [e0] at h; exact h
  | succ n ih =>
    by_cases e : k = n + 1
    · subst e; exact h
    · rw [exL, ih (by omega)]; rfl
theorem exTo_len {s : Int × Int} {its l : List ItemL} {k : Nat} (h : exTo s its k = some l) : l.length = its.length := by
  induction k generalizing l with
  | zero => rw [exTo] at h; cases h; rfl
  | succ k ih =>
    rw [exTo] at h
    cases h0 : exTo s its k with
    | none => rw [h0] at h; cases h
    | some m =>
      rw [h0, Option.bind_some] at h
      have := ih h0
      split at h
      · split at h
        · cases h
        · cases h; rw [List.length_set]; exact this
      · cases h; exact this
theorem exL_len {its l : List ItemL} {sw : List (Int × Int)} {k : Nat} (h : exL its sw k = some l) : l.length = its.length := by
  induction k generalizing l with
  | zero => rw [exL] at h; cases h; rfl
  | succ k ih =>
    rw [exL] at h
    cases h0 : exL its sw k with
    | none => rw [h0] at h; cases h
    | some m =>
      rw [h0, Option.bind_some] at h
      rw [exTo_len h, ih h0]
/-- Items that are valid, one by one. -/
def ItOk (P : Int) (its : List ItemL) : Prop := ∀ k, k < its.length → (its[k]?.getD ([], [])).1.length ≤ 6 ∧ isSetFrom 0 ((k : Nat) : Int) (its[k]?.getD ([], [])).1 = true ∧ isSetFrom 0 P (its[k]?.getD ([], [])).2 = true
theorem itOk_from (P : Int) : ∀ (xs : List ItemL) (i : Nat), (∀ k, k < xs.length → (xs[k]?.getD ([], [])).1.length ≤ 6 ∧ isSetFrom 0 ((i + k : Nat) : Int) (xs[k]?.getD ([], [])).1 = true ∧ isSetFrom 0 P (xs[k]?.getD ([], [])).2 = true) → itemsE P i xs = 0
  | [], i, _ => rfl
  | x :: t, i, h => by
    have h0 := h 0 (by simp)
    simp only [List.getElem?_cons_zero, Option.getD_some, Nat.add_zero] at h0
    rw [itemsE, if_neg (by omega), if_pos (by rw [h0.2.1, h0.2.2]; rfl)]
    refine itOk_from P t (i + 1) (fun k hk => ?_)
    have := h (k + 1) (by simpa using hk)
    rw [show i + 1 + k = i + (k + 1) by omega]
    simpa using this
theorem itOk_iff (P : Int) (its : List ItemL) : itemsE P 0 its = 0 ↔ ItOk P its := by
  constructor
  · intro h k hk
    have := itemsE_ok P its 0 h k hk
    rw [Nat.zero_add] at this
    exact this
  · intro h
    refine itOk_from P its 0 (fun k hk => ?_)
    rw [Nat.zero_add]
    exact h k hk
theorem memB_iff (x : Int) (l : List Int) : memB x l = true ↔ x ∈ l := by simp [memB]
theorem exP_mem (s : Int × Int) (ps : List Int) (hb : ∀ x ∈ ps, 0 ≤ x ∧ x < 64) (h2 : 0 ≤ s.2 ∧ s.2 < 64) (x : Int) : x ∈ exP s ps ↔ x = s.2 ∨ (x ∈ ps ∧ x ≠ s.1) := by
  unfold exP
  rw [mem_bits_mask _ (by
    intro y hy
    simp only [List.mem_cons, List.mem_filter] at hy
    rcases hy with rfl | ⟨hy, _⟩
    · exact h2
    · exact hb y hy)]
  simp
theorem len_sub : ∀ (l m : List Int), l.Pairwise (· < ·) → m.Pairwise (· < ·) → (∀ x ∈ l, x ∈ m) → l.length ≤ m.length
  | [], m, _, _, _ => by simp
  | x :: l, [], _, _, h => by have := h x (by simp); simp at this
  | x :: l, y :: m, hl, hm, h => by
    obtain ⟨l1, l2⟩ := List.pairwise_cons.1 hl
    obtain ⟨m1, m2⟩ := List.pairwise_cons.1 hm
    have hx := h x (by simp)
    rw [List.mem_cons] at hx
    have : l.length ≤ m.length := by
      refine len_sub l m l2 m2 (fun z hz => ?_)
      have hz2 := h z (by simp [hz])
      rw [List.mem_cons] at hz2
      rcases hz2 with rfl | hz2
      · have := l1 z hz
        rcases hx with rfl | hx
        · omega
        · have := m1 x hx; omega
      · exact hz2
    simp only [List.length_cons]
    omega
theorem filter_len_lt : ∀ (l : List Int) (x : Int), x ∈ l → (l.filter (fun y => decide (y ≠ x))).length < l.length
  | a :: l, x, h => by
    have hle := List.length_filter_le (fun y => decide (y ≠ x)) l
    by_cases e : a = x
    · subst e; simp; simp at hle; omega
    · have hx : x ∈ l := by
        rw [List.mem_cons] at h
        rcases h with rfl | h
        · exact absurd rfl e
        · exact h
      have := filter_len_lt l x hx
      rw [List.filter_cons, if_pos (by simpa using e)]
      simp only [List.length_cons]
      omega
theorem bits_len_le (l : List Int) (h : ∀ x ∈ l, 0 ≤ x ∧ x < 64) : (bitsTo (maskL l) 64).length ≤ l.length := by
  have hn : (bitsTo (maskL l) 64).Nodup := (bitsTo_sorted _ _).imp (fun hab => by omega)
  exact hn.length_le_of_subset (fun x hx => (mem_bits_mask l h x).1 hx)
theorem exTo_ok {P : Int} {s : Int × Int} {its l : List ItemL} {k : Nat} (hk : k ≤ its.length) (hl : its.length ≤ 64) (h2 : 0 ≤ s.2) (hi : ItOk P its) (h : exTo s its k = some l) : ItOk P l := by
  induction k generalizing l with
  | zero => rw [exTo] at h; cases h; exact hi
  | succ k ih =>
    rw [exTo] at h
    cases h0 : exTo s its k with
    | none => rw [h0] at h; cases h
    | some m =>
      rw [h0, Option.bind_some] at h
      have hm := ih (by omega) h0
      have hml := exTo_len h0
      split at h
      · rename_i hmem
        split at h
        · cases h
        · rename_i hlt
          cases h
          intro j hj
          rw [List.length_set] at hj
          by_cases e : j = k
          · subst e
            rw [List.getElem?_set_self hj, Option.getD_some]
            obtain ⟨m1, m2, m3⟩ := hm j hj
            rw [isSetFrom_iff] at m2
            have hb : ∀ x ∈ (m[j]?.getD ([], [])).1, 0 ≤ x ∧ x < 64 := fun x hx => by have := m2.2 x hx; omega
            refine ⟨?_, ?_, m3⟩
            · have h3 := bits_len_le (s.2 :: (m[j]?.getD ([], [])).1.filter (fun x => decide (x ≠ s.1))) (by
                intro y hy
                simp only [List.mem_cons, List.mem_filter] at hy
                rcases hy with rfl | ⟨hy, _⟩
                · omega
                · exact hb y hy)
              have h4 := filter_len_lt _ s.1 ((memB_iff _ _).1 hmem)
              simp only [List.length_cons] at h3
              unfold exP
              dsimp only
              omega
            · rw [isSetFrom_iff]
              refine ⟨bitsTo_sorted _ _, fun x hx => ?_⟩
              dsimp only at hx
              rw [exP_mem s _ hb (by omega)] at hx
              rcases hx with rfl | ⟨hx, _⟩
              · omega
              · exact m2.2 x hx
          · rw [List.getElem?_set_ne (fun h => e h.symm)]
            exact hm j hj
      · cases h; exact hm
theorem exL_ok {P : Int} {its l : List ItemL} {sw : List (Int × Int)} {k : Nat} (hk : k ≤ sw.length) (hl : its.length ≤ 64) (h2 : ∀ s ∈ sw, 0 ≤ s.2) (hi : ItOk P its) (h : exL its sw k = some l) : ItOk P l := by
  induction k generalizing l with
  | zero => rw [exL] at h; cases h; exact hi
  | succ k ih =>
    rw [exL] at h
    cases h0 : exL its sw k with
    | none => rw [h0] at h; cases h
    | some m =>
      rw [h0, Option.bind_some] at h
      have hml := exL_len h0
      refine exTo_ok (Nat.le_refl _) (by omega) ?_ (ih (by omega) h0) h
      rw [List.getElem?_eq_getElem (by omega)]
      exact h2 _ (List.getElem_mem _)
theorem valid_ex {P : Int} {its l : List ItemL} {rls : List RuleL} {sw : List (Int × Int)} {k : Nat} (hv : validB P its rls = 0) (hk : k ≤ sw.length) (h2 : ∀ s ∈ sw, 0 ≤ s.2) (h : exL its sw k = some l) : validB P l rls = 0 := by
  obtain ⟨v0, v1, v2, v3, v4, v5⟩ := validB_ok hv
  have hl := exL_len h
  have h4 : itemsE P 0 l = 0 := (itOk_iff P l).2 (exL_ok hk (by omega) h2 ((itOk_iff P its).1 v4) h)
  unfold validB
  rw [if_neg (by omega), if_neg (by omega), if_neg (by simp [h4])]
  exact v5
/-- The list in which the place of an item is overwritten. -/
theorem exP_set (s : Int × Int) (ps : List Int) (hs : ps.Pairwise (· < ·)) (hb : ∀ x ∈ ps, 0 ≤ x ∧ x < 64) (hm : s.1 ∈ ps) : bitsTo (maskL (ps.set (ps.countP (· < s.1)) s.2)) 64 = exP s ps ∧ ps.countP (· < s.1) < ps.length := by
  have hat : ∀ (l : List Int), l.Pairwise (· < ·) → s.1 ∈ l → l.countP (· < s.1) < l.length ∧ ∀ y, (∃ i, l[i]? = some y ∧ i ≠ l.countP (· < s.1)) ↔ (y ∈ l ∧ y ≠ s.1) := by
    intro l
    induction l with
    | nil => intro _ h; simp at h
    | cons a t ih =>
      intro hp hin
      obtain ⟨p1, p2⟩ := List.pairwise_cons.1 hp
      by_cases hlt : a < s.1
      · have hin2 : s.1 ∈ t := by
          rw [List.mem_cons] at hin
          rcases hin with e | e
          · omega
          · exact e
        obtain ⟨i1, i2⟩ := ih p2 hin2
        rw [List.countP_cons_of_pos (by simpa using hlt)]
        refine ⟨by simp; exact i1, fun y => ⟨?_, ?_⟩⟩
        · rintro ⟨i, hi, hne⟩
          cases i with
          | zero => simp at hi; subst hi; exact ⟨by simp, by omega⟩
          | succ i =>
            have := (i2 y).1 ⟨i, by simpa using hi, by omega⟩
            exact ⟨by simp [this.1], this.2⟩
        · rintro ⟨hy, hne⟩
          rw [List.mem_cons] at hy
          rcases hy with rfl | hy
          · exact ⟨0, rfl, by omega⟩
          · obtain ⟨i, h1, h2⟩ := (i2 y).2 ⟨hy, hne⟩
            exact ⟨i + 1, by simpa using h1, by omega⟩
      · have ha : a = s.1 := by
          rw [List.mem_cons] at hin
          rcases hin with e | e
          · exact e.symm
          · have := p1 _ e; omega
        subst ha
        have h0 : t.countP (· < s.1) = 0 := by
          rw [List.countP_eq_zero]
          intro x hx
          have := p1 x hx
          simp; omega
        rw [List.countP_cons_of_neg (by simp), h0]
        refine ⟨by simp, fun y => ⟨?_, ?_⟩⟩
        · rintro ⟨i, hi, hne⟩
          cases i with
          | zero => exact absurd rfl hne
          | succ i =>
            have hy := List.mem_of_getElem? (l := t) (by simpa using hi)
            have := p1 y hy
            exact ⟨by simp [hy], by omega⟩
        · rintro ⟨hy, hne⟩
          rw [List.mem_cons] at hy
          rcases hy with rfl | hy
          · exact absurd rfl hne
          · obtain ⟨i, h1, h2⟩ := List.mem_iff_getElem.1 hy
            exact ⟨i + 1, by simp [List.getElem?_eq_getElem h1, h2], by omega⟩
  obtain ⟨h1, h2⟩ := hat ps hs hm
  refine ⟨bits_congr (fun x => ?_), h1⟩
  rw [List.mem_cons, List.mem_filter]
  constructor
  · intro hx
    obtain ⟨i, hi⟩ := List.mem_iff_getElem?.1 hx
    rw [List.getElem?_set] at hi
    split at hi
    · cases hi; exact .inl rfl
    · rename_i hne
      have := (h2 x).1 ⟨i, hi, fun e => hne e.symm⟩
      exact .inr ⟨this.1, by simpa using this.2⟩
  · rintro (rfl | ⟨hx, hne⟩)
    · exact List.mem_iff_getElem?.2 ⟨_, List.getElem?_set_self h1⟩
    · obtain ⟨i, h3, h4⟩ := (h2 x).2 ⟨hx, by simpa using hne⟩
      exact List.mem_iff_getElem?.2 ⟨i, by rw [List.getElem?_set_ne (fun e => h4 e.symm)]; exact h3⟩
end Go.Proofs.Ytdgleicpcjfnoaa
