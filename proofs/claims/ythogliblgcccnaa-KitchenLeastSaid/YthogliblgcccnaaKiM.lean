/- Batches on two lines: times, paths, sorted orders, bounds. Plain mathematics. -/
set_option linter.unusedVariables false
namespace Go.Proofs.Ythogliblgcccnaa

/-- A batch: what it is cooked, and packed. -/
abbrev Bt := Int × Int
def btAt (l : List Bt) (i : Nat) : Bt := l[i]?.getD (0, 0)
/-- When all is packed, from a time of the stove and one of the line on. -/
def tm (c p : Int) : List Bt → Int
  | [] => p
  | b :: t => tm (c + b.1) (max (c + b.1) p + b.2) t
def befB (a b : Bt) : Bool := decide (min a.1 b.2 ≤ min b.1 a.2)
def totC : List Bt → Int
  | [] => 0
  | b :: t => b.1 + totC t
def totP : List Bt → Int
  | [] => 0
  | b :: t => b.2 + totP t
/-- The sum of the cooking up to a place and the packing from it on. -/
def path : List Bt → Nat → Int
  | [], _ => 0
  | b :: t, 0 => b.1 + b.2 + totP t
  | b :: t, k + 1 => b.1 + path t k
def NN (s : List Bt) : Prop := ∀ b ∈ s, 0 ≤ b.1 ∧ 0 ≤ b.2

theorem tm_mono (s : List Bt) : ∀ c p c' p' : Int, c ≤ c' → p ≤ p' → tm c p s ≤ tm c' p' s := by
  induction s with
  | nil => intro c p c' p' _ h; exact h
  | cons b t ih => intro c p c' p' h1 h2; exact ih _ _ _ _ (by omega) (by omega)
theorem tm_swap (c p : Int) (a b : Bt) (t : List Bt) (h : befB a b = true) : tm c p (a :: b :: t) ≤ tm c p (b :: a :: t) := by
  have h' : min a.1 b.2 ≤ min b.1 a.2 := of_decide_eq_true h
  show tm (c + a.1 + b.1) _ t ≤ tm (c + b.1 + a.1) _ t
  exact tm_mono t _ _ _ _ (by omega) (by omega)
theorem tm_front (t1 : List Bt) : ∀ (c p : Int) (a : Bt) (t2 : List Bt), (∀ x ∈ t1, befB a x = true) → tm c p (a :: (t1 ++ t2)) ≤ tm c p (t1 ++ a :: t2) := by
  induction t1 with
  | nil => intro c p a t2 _; exact Int.le_refl _
  | cons x t ih =>
    intro c p a t2 h
    refine Int.le_trans (tm_swap c p a x (t ++ t2) (h x (by simp))) ?_
    exact ih _ _ a t2 (fun y hy => h y (by simp [hy]))
/-- An order whose batches may each come before all later ones is the soonest. -/
theorem johnson (s : List Bt) : ∀ (c p : Int) (t : List Bt), s.Pairwise (fun a b => befB a b = true) → t.Perm s → tm c p s ≤ tm c p t := by
  induction s with
  | nil => intro c p t _ h; rw [h.eq_nil]; exact Int.le_refl _
  | cons a s ih =>
    intro c p t hs ht
    have hm : a ∈ t := ht.symm.subset (by simp)
    obtain ⟨t1, t2, rfl⟩ := List.append_of_mem hm
    have hp : (t1 ++ t2).Perm s := by
      have := (List.perm_middle (a := a) (l₁ := t1) (l₂ := t2)).symm.trans ht
      exact (List.perm_cons a).1 this
    rw [List.pairwise_cons] at hs
    refine Int.le_trans (ih _ _ _ hs.2 hp) ?_
    refine tm_front t1 c p a t2 (fun x hx => hs.1 x (hp.subset (by simp [hx])))

theorem tm_low (s : List Bt) (hs : NN s) : ∀ c p : Int, p + totP s ≤ tm c p s := by
  induction s with
  | nil => intro c p; simp [tm, totP]
  | cons b t ih =>
    intro c p
    have := ih (fun x hx => hs x (by simp [hx])) (c + b.1) (max (c + b.1) p + b.2)
    simp only [tm, totP]; omega
theorem path_le (s : List Bt) (hs : NN s) : ∀ (c p : Int) (k : Nat), k < s.length → c + path s k ≤ tm c p s := by
  induction s with
  | nil => intro c p k h; simp at h
  | cons b t ih =>
    intro c p k h
    have hn : NN t := fun x hx => hs x (by simp [hx])
    cases k with
    | zero =>
      have := tm_low t hn (c + b.1) (max (c + b.1) p + b.2)
      simp only [tm, path]; omega
    | succ k =>
      have := ih hn (c + b.1) (max (c + b.1) p + b.2) k (by simpa using h)
      simp only [tm, path]; omega
theorem path_has (s : List Bt) : ∀ c p : Int, tm c p s = p + totP s ∨ ∃ k, k < s.length ∧ tm c p s = c + path s k := by
  induction s with
  | nil => intro c p; left; simp [tm, totP]
  | cons b t ih =>
    intro c p
    rcases ih (c + b.1) (max (c + b.1) p + b.2) with h | ⟨k, hk, h⟩
    · by_cases hc : p ≤ c + b.1
      · right; exact ⟨0, by simp, by simp only [tm, path]; omega⟩
      · left; simp only [tm, totP]; omega
    · right; exact ⟨k + 1, by simpa using hk, by simp only [tm, path]; omega⟩
/-- The time is the greatest of the paths. -/
theorem time_path (s : List Bt) (hs : NN s) : (∀ k, k < s.length → path s k ≤ tm 0 0 s) ∧ (0 < s.length → ∃ k, k < s.length ∧ path s k = tm 0 0 s) := by
  refine ⟨fun k hk => by have := path_le s hs 0 0 k hk; omega, fun h0 => ?_⟩
  rcases path_has s 0 0 with h | ⟨k, hk, h⟩
  · refine ⟨0, h0, ?_⟩
    have h1 := path_le s hs 0 0 0 h0
    cases s with
    | nil => simp at h0
    | cons b t =>
      have := (hs b (by simp)).1
      simp only [path, totP] at *; omega
  · exact ⟨k, hk, by omega⟩

/-- The cooking of the first k, and the packing of the first k. -/
def cookTo (s : List Bt) : Nat → Int
  | 0 => 0
  | k + 1 => cookTo s k + (btAt s k).1
def packSum (s : List Bt) : Nat → Int
  | 0 => 0
  | k + 1 => packSum s k + (btAt s k).2
/-- When the first k are packed. -/
def packTo (s : List Bt) : Nat → Int
  | 0 => 0
  | k + 1 => max (cookTo s (k + 1)) (packTo s k) + (btAt s k).2
theorem drop_bt (s : List Bt) (k : Nat) (h : k < s.length) : s.drop k = btAt s k :: s.drop (k + 1) := by
  rw [List.drop_eq_getElem_cons h]; simp [btAt, h]
theorem tm_to (s : List Bt) (k : Nat) (h : k ≤ s.length) : tm 0 0 s = tm (cookTo s k) (packTo s k) (s.drop k) := by
  induction k with
  | zero => rfl
  | succ k ih => rw [ih (by omega), drop_bt s k (by omega)]; rfl
theorem tm_end (s : List Bt) : tm 0 0 s = packTo s s.length := by
  rw [tm_to s s.length (Nat.le_refl _), List.drop_length]; rfl
theorem totP_to (s : List Bt) (k : Nat) (h : k ≤ s.length) : totP s = packSum s k + totP (s.drop k) := by
  induction k with
  | zero => simp [packSum]
  | succ k ih => rw [ih (by omega), drop_bt s k (by omega)]; simp only [packSum, totP]; omega
theorem totP_end (s : List Bt) : totP s = packSum s s.length := by
  rw [totP_to s s.length (Nat.le_refl _), List.drop_length]; simp [totP]
theorem path_zero (s : List Bt) (h : 0 < s.length) : path s 0 = (btAt s 0).1 + totP s := by
  cases s with
  | nil => simp at h
  | cons b t => simp [path, btAt, totP]; omega
theorem btAt_cons (b : Bt) (t : List Bt) (k : Nat) : btAt (b :: t) (k + 1) = btAt t k := by simp [btAt]
theorem cookTo_cons (b : Bt) (t : List Bt) (k : Nat) : cookTo (b :: t) (k + 1) = b.1 + cookTo t k := by
  induction k with
  | zero => simp [cookTo, btAt]
  | succ k ih => rw [cookTo, ih, btAt_cons]; simp only [cookTo]; omega
theorem packSum_cons (b : Bt) (t : List Bt) (k : Nat) : packSum (b :: t) (k + 1) = b.2 + packSum t k := by
  induction k with
  | zero => simp [packSum, btAt]
  | succ k ih => rw [packSum, ih, btAt_cons]; simp only [packSum]; omega
theorem path_eq (s : List Bt) : ∀ k, k < s.length → path s k = cookTo s (k + 1) + totP s - packSum s k := by
  induction s with
  | nil => intro k h; simp at h
  | cons b t ih =>
    intro k h
    cases k with
    | zero => rw [cookTo_cons]; simp only [path, cookTo, packSum, totP]; omega
    | succ k =>
      have := ih k (by simpa using h)
      rw [cookTo_cons, packSum_cons]; simp only [path, totP]; omega

/-- The first place whose path is the time. -/
structure IsCrit (s : List Bt) (k : Nat) : Prop where
  lt : k < s.length
  eq : path s k = tm 0 0 s
  first : ∀ j, j < k → path s j ≠ tm 0 0 s
theorem IsCrit.unique {s : List Bt} {a b : Nat} (ha : IsCrit s a) (hb : IsCrit s b) : a = b := by
  rcases Nat.lt_trichotomy a b with h | h | h
  · exact absurd ha.eq (hb.first a h)
  · exact h
  · exact absurd hb.eq (ha.first b h)
theorem crit_has (s : List Bt) (hs : NN s) (h0 : 0 < s.length) : ∃ k, IsCrit s k := by
  obtain ⟨k, hk, he⟩ := (time_path s hs).2 h0
  induction k using Nat.strongRecOn with
  | _ k ih =>
    by_cases h : ∃ j, j < k ∧ path s j = tm 0 0 s
    · obtain ⟨j, hj, hje⟩ := h; exact ih j hj (by omega) hje
    · exact ⟨k, hk, he, fun j hj e => h ⟨j, hj, e⟩⟩
/-- What the document's own longest finds in the first n places: the greatest path, and the first place that has it. -/
structure Long (s : List Bt) (n : Nat) (most : Int) (at_ : Nat) : Prop where
  all : ∀ k, k < n → path s k ≤ most
  has : 0 < n → at_ < n ∧ path s at_ = most ∧ ∀ j, j < at_ → path s j < most
  none : n = 0 → most = 0 ∧ at_ = 0
theorem Long.zero (s : List Bt) : Long s 0 0 0 := ⟨fun k h => by omega, fun h => by omega, fun _ => ⟨rfl, rfl⟩⟩
theorem Long.first (s : List Bt) : Long s 1 (path s 0) 0 :=
  ⟨fun k h => by rw [show k = 0 by omega]; exact Int.le_refl _, fun _ => ⟨by omega, rfl, fun j h => by omega⟩, fun h => by omega⟩
theorem Long.more {s : List Bt} {n : Nat} {m : Int} {a : Nat} (h : Long s n m a) (hn : 0 < n) (h1 : m < path s n) : Long s (n + 1) (path s n) n := by
  refine ⟨fun k hk => ?_, fun _ => ⟨by omega, rfl, fun j hj => ?_⟩, fun h => by omega⟩
  · rcases Nat.lt_or_ge k n with h2 | h2
    · have := h.all k h2; omega
    · rw [show k = n by omega]; exact Int.le_refl _
  · have := h.all j hj; omega
theorem Long.stay {s : List Bt} {n : Nat} {m : Int} {a : Nat} (h : Long s n m a) (hn : 0 < n) (h1 : path s n ≤ m) : Long s (n + 1) m a := by
  obtain ⟨h2, h3, h4⟩ := h.has hn
  refine ⟨fun k hk => ?_, fun _ => ⟨by omega, h3, h4⟩, fun h => by omega⟩
  rcases Nat.lt_or_ge k n with h5 | h5
  · exact h.all k h5
  · rw [show k = n by omega]; exact h1
theorem Long.time {s : List Bt} {m : Int} {a : Nat} (h : Long s s.length m a) (hs : NN s) : m = tm 0 0 s ∧ (0 < s.length → IsCrit s a) := by
  by_cases h0 : s.length = 0
  · have := List.eq_nil_of_length_eq_zero h0
    subst this
    exact ⟨(h.none rfl).1, fun h => by simp at h⟩
  · obtain ⟨h2, h3, h4⟩ := h.has (by omega)
    obtain ⟨k, hk, he⟩ := (time_path s hs).2 (by omega)
    have h5 := h.all k hk
    have h6 := (time_path s hs).1 a h2
    have hm : m = tm 0 0 s := by omega
    exact ⟨hm, fun _ => ⟨h2, by omega, fun j hj e => by have := h4 j hj; omega⟩⟩
/-- At the critical place nothing waits for the packing line. -/
theorem packTo_low (s : List Bt) (hs : NN s) (k : Nat) (hk : k ≤ s.length) : packTo s k + totP s - packSum s k ≤ tm 0 0 s := by
  have h1 := tm_low (s.drop k) (fun b hb => hs b (List.mem_of_mem_drop hb)) (cookTo s k) (packTo s k)
  rw [← tm_to s k hk] at h1
  have := totP_to s k hk
  omega
theorem crit_pack {s : List Bt} (hs : NN s) {k : Nat} (h : IsCrit s k) : max (cookTo s (k + 1)) (packTo s k) = cookTo s (k + 1) := by
  have h1 := packTo_low s hs k (by have := h.lt; omega)
  have h2 := path_eq s k h.lt
  have := h.eq
  omega
/-- How long the packing line waits. -/
def idleTo (s : List Bt) : Nat → Int
  | 0 => 0
  | k + 1 => idleTo s k + (max (cookTo s (k + 1)) (packTo s k) - packTo s k)
theorem idle_work (s : List Bt) (k : Nat) : idleTo s k + packSum s k = packTo s k := by
  induction k with
  | zero => rfl
  | succ k ih => simp only [idleTo, packSum, packTo]; omega

/-- The document's bound. -/
def minC (b : Bt) : List Bt → Int
  | [] => b.1
  | x :: t => min x.1 (minC b t)
def minP (b : Bt) : List Bt → Int
  | [] => b.2
  | x :: t => min x.2 (minP b t)
theorem totC_perm {s t : List Bt} (h : s.Perm t) : totC s = totC t := by
  induction h with
  | nil => rfl
  | cons x _ ih => simp only [totC]; omega
  | swap x y l => simp only [totC]; omega
  | trans _ _ h1 h2 => omega
theorem totP_perm {s t : List Bt} (h : s.Perm t) : totP s = totP t := by
  induction h with
  | nil => rfl
  | cons x _ ih => simp only [totP]; omega
  | swap x y l => simp only [totP]; omega
  | trans _ _ h1 h2 => omega
theorem tm_cooks (s : List Bt) (hs : NN s) : ∀ (c p m : Int), (∀ b ∈ s, m ≤ b.2) → s ≠ [] → c + totC s + m ≤ tm c p s := by
  induction s with
  | nil => intro c p m _ h; exact absurd rfl h
  | cons b t ih =>
    intro c p m hm _
    have hn : NN t := fun x hx => hs x (by simp [hx])
    by_cases ht : t = []
    · subst ht
      have := hm b (by simp)
      simp only [tm, totC]; omega
    · have := ih hn (c + b.1) (max (c + b.1) p + b.2) m (fun x hx => hm x (by simp [hx])) ht
      simp only [tm, totC]; omega
theorem tm_packs (s : List Bt) (hs : NN s) (m : Int) (hm : ∀ b ∈ s, m ≤ b.1) (h : s ≠ []) (c p : Int) : c + m + totP s ≤ tm c p s := by
  cases s with
  | nil => exact absurd rfl h
  | cons b t =>
    have := tm_low t (fun x hx => hs x (by simp [hx])) (c + b.1) (max (c + b.1) p + b.2)
    have := hm b (by simp)
    simp only [tm, totP]; omega
theorem tm_one (s : List Bt) (hs : NN s) : ∀ (c p : Int), ∀ b ∈ s, c + b.1 + b.2 ≤ tm c p s := by
  induction s with
  | nil => intro c p b h; simp at h
  | cons x t ih =>
    intro c p b hb
    have hn : NN t := fun x hx => hs x (by simp [hx])
    rcases List.mem_cons.1 hb with rfl | hb
    · have h0 : 0 ≤ totP t := by
        clear ih hs hb
        induction t with
        | nil => simp [totP]
        | cons y t ih => have := ih (fun x hx => hn x (by simp [hx])); have := (hn y (by simp)).2; simp only [totP]; omega
      have := tm_low t hn (c + b.1) (max (c + b.1) p + b.2)
      simp only [tm]; omega
    · have := ih hn (c + x.1) (max (c + x.1) p + x.2) b hb
      have := (hs x (by simp)).1
      simp only [tm]; omega
/-- A batch left out does not make the time greater. -/
theorem tm_out (s1 : List Bt) : ∀ (c p : Int) (b : Bt) (s2 : List Bt), 0 ≤ b.1 → 0 ≤ b.2 → tm c p (s1 ++ s2) ≤ tm c p (s1 ++ b :: s2) := by
  induction s1 with
  | nil => intro c p b s2 h1 h2; exact tm_mono s2 _ _ _ _ (by omega) (by omega)
  | cons x t ih => intro c p b s2 h1 h2; exact ih _ _ b s2 h1 h2
/-- A batch behind all others takes its own minutes at most. -/
theorem tm_snoc (s : List Bt) (hs : NN s) : ∀ (c p : Int) (b : Bt), 0 ≤ b.1 → 0 ≤ b.2 → c ≤ p → tm c p (s ++ [b]) ≤ tm c p s + b.1 + b.2 := by
  induction s with
  | nil => intro c p b h1 h2 h3; simp only [List.nil_append, tm]; omega
  | cons x t ih =>
    intro c p b h1 h2 h3
    have := hs x (by simp)
    exact ih (fun y hy => hs y (by simp [hy])) (c + x.1) (max (c + x.1) p + x.2) b h1 h2 (by omega)
/-- Cooking and packing exchanged, from the end. -/
def flip2 (b : Bt) : Bt := (b.2, b.1)
theorem totP_flip (s : List Bt) : totP (s.map flip2) = totC s := by
  induction s with
  | nil => rfl
  | cons b t ih => simp only [List.map_cons, totP, totC, flip2]; omega
theorem totC_flip (s : List Bt) : totC (s.map flip2) = totP s := by
  induction s with
  | nil => rfl
  | cons b t ih => simp only [List.map_cons, totP, totC, flip2]; omega
theorem totC_to (s : List Bt) (k : Nat) (h : k ≤ s.length) : totC s = cookTo s k + totC (s.drop k) := by
  induction k with
  | zero => simp [cookTo]
  | succ k ih => rw [ih (by omega), drop_bt s k (by omega)]; simp only [cookTo, totC]; omega
theorem totC_end (s : List Bt) : totC s = cookTo s s.length := by
  rw [totC_to s s.length (Nat.le_refl _), List.drop_length]; simp [totC]
theorem btAt_rev (s : List Bt) (k : Nat) (h : k < s.length) : btAt ((s.map flip2).reverse) k = flip2 (btAt s (s.length - 1 - k)) := by
  unfold btAt
  rw [List.getElem?_reverse (by simpa using h), List.getElem?_map, List.length_map]
  rw [List.getElem?_eq_getElem (by omega)]; rfl
theorem cookTo_rev (s : List Bt) (k : Nat) (h : k ≤ s.length) : cookTo ((s.map flip2).reverse) k = totP s - packSum s (s.length - k) := by
  induction k with
  | zero => have := totP_end s; simp only [cookTo, Nat.sub_zero]; omega
  | succ k ih =>
    rw [cookTo, ih (by omega), btAt_rev s k (by omega)]
    have : packSum s (s.length - k) = packSum s (s.length - 1 - k) + (btAt s (s.length - 1 - k)).2 := by
      rw [show s.length - k = s.length - 1 - k + 1 by omega]; rfl
    rw [show s.length - (k + 1) = s.length - 1 - k by omega]
    simp only [flip2]; omega
theorem packSum_rev (s : List Bt) (k : Nat) (h : k ≤ s.length) : packSum ((s.map flip2).reverse) k = totC s - cookTo s (s.length - k) := by
  induction k with
  | zero => have := totC_end s; simp only [packSum, Nat.sub_zero]; omega
  | succ k ih =>
    rw [packSum, ih (by omega), btAt_rev s k (by omega)]
    have : cookTo s (s.length - k) = cookTo s (s.length - 1 - k) + (btAt s (s.length - 1 - k)).1 := by
      rw [show s.length - k = s.length - 1 - k + 1 by omega]; rfl
    rw [show s.length - (k + 1) = s.length - 1 - k by omega]
    simp only [flip2]; omega
theorem path_rev (s : List Bt) (k : Nat) (h : k < s.length) : path ((s.map flip2).reverse) k = path s (s.length - 1 - k) := by
  rw [path_eq _ k (by simpa using h), path_eq s _ (by omega), cookTo_rev s _ (by omega), packSum_rev s k (by omega)]
  have h1 : totP ((s.map flip2).reverse) = totC s := by rw [totP_perm (List.reverse_perm _), totP_flip]
  rw [h1, show s.length - (k + 1) = s.length - 1 - k by omega, show s.length - 1 - k + 1 = s.length - k by omega]
  omega
theorem NN.rev {s : List Bt} (h : NN s) : NN ((s.map flip2).reverse) := by
  intro b hb
  rw [List.mem_reverse, List.mem_map] at hb
  obtain ⟨x, hx, rfl⟩ := hb
  exact ⟨(h x hx).2, (h x hx).1⟩
/-- The time stays when all goes backward. -/
theorem tm_rev (s : List Bt) (hs : NN s) : tm 0 0 ((s.map flip2).reverse) = tm 0 0 s := by
  by_cases h0 : s.length = 0
  · rw [List.eq_nil_of_length_eq_zero h0]; rfl
  · have hl : ((s.map flip2).reverse).length = s.length := by simp
    obtain ⟨a1, a2⟩ := time_path s hs
    obtain ⟨b1, b2⟩ := time_path _ hs.rev
    obtain ⟨k, hk, hke⟩ := a2 (by omega)
    obtain ⟨j, hj, hje⟩ := b2 (by omega)
    rw [hl] at hj
    have e1 := path_rev s j hj
    have e2 := path_rev s (s.length - 1 - k) (by omega)
    rw [show s.length - 1 - (s.length - 1 - k) = k by omega] at e2
    have f1 := a1 (s.length - 1 - j) (by omega)
    have f2 := b1 (s.length - 1 - k) (by rw [hl]; omega)
    omega
end Go.Proofs.Ythogliblgcccnaa
