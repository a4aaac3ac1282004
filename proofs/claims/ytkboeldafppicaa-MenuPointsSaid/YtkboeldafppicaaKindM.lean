/- Kinds of states: the refinement of a partition. Plain mathematics. -/
import Derived.Test.YtkboeldafppicaaListM
/- The listing of a language: what every plain form is. Plain mathematics. -/
set_option linter.unusedVariables false
namespace Go.Proofs.Ytkboeldafppicaa

section
variable {S T : Type}
/-- Two lists whose elements belong together, one by one. -/
def Both2 (R : S → T → Prop) (l : List S) (m : List T) : Prop := l.length = m.length ∧ ∀ (i : Nat) (s : S) (t : T), l[i]? = some s → m[i]? = some t → R s t
theorem Both2.snoc {R : S → T → Prop} {l : List S} {m : List T} (h : Both2 R l m) {s : S} {t : T} (hr : R s t) : Both2 R (l ++ [s]) (m ++ [t]) := by
  refine ⟨by simp [h.1], fun i a b ha hb => ?_⟩
  by_cases hi : i < l.length
  · rw [List.getElem?_append_left hi] at ha
    rw [List.getElem?_append_left (by have := h.1; omega)] at hb
    exact h.2 i a b ha hb
  · rw [List.getElem?_append_right (by omega)] at ha
    rw [List.getElem?_append_right (by have := h.1; omega)] at hb
    have h1 : i - l.length = 0 := by
      rcases Nat.eq_zero_or_pos (i - l.length) with e | e
      · exact e
      · rw [List.getElem?_eq_none (by simp; omega)] at ha; cases ha
    have h2 : i - m.length = 0 := by have := h.1; omega
    rw [h1] at ha; rw [h2] at hb
    simp at ha hb
    subst ha; subst hb; exact hr
theorem pre_get {l m : List S} (h : l <+: m) {i : Nat} {s : S} (hs : l[i]? = some s) : m[i]? = some s := by
  obtain ⟨t, rfl⟩ := h
  rw [List.getElem?_append_left (List.getElem?_eq_some_iff.1 hs).1]; exact hs
end

section
variable {S T : Type} [DecidableEq S] [DecidableEq T]
theorem Both2.mem {R : S → T → Prop} {l : List S} {m : List T} (h : Both2 R l m) (bi : ∀ s t s' t', R s t → R s' t' → (s = s' ↔ t = t')) {s : S} {t : T} (hr : R s t) : (s ∈ l ↔ t ∈ m) ∧ (s ∈ l → l.idxOf s = m.idxOf t) := by
  obtain ⟨h1, h2⟩ := h
  induction l generalizing m with
  | nil => cases m with
    | nil => simp
    | cons b m => simp at h1
  | cons a l ih =>
    cases m with
    | nil => simp at h1
    | cons b m =>
      have hab : R a b := h2 0 a b rfl rfl
      obtain ⟨i1, i2⟩ := ih (m := m) (by simpa using h1) (fun i s t hs ht => h2 (i + 1) s t (by simpa using hs) (by simpa using ht))
      have e := bi _ _ _ _ hr hab
      refine ⟨by rw [List.mem_cons, List.mem_cons, e, i1], fun hm => ?_⟩
      rw [List.idxOf_cons, List.idxOf_cons]
      by_cases hs : s = a
      · have ht := e.1 hs
        subst hs; subst ht; simp
      · have ht : ¬ t = b := fun h => hs (e.2 h)
        have h1 : (a == s) = false := by simpa using fun h => hs h.symm
        have h2 : (b == t) = false := by simpa using fun h => ht h.symm
        rw [h1, h2]
        have := i2 (by rcases List.mem_cons.1 hm with h | h; exact absurd h hs; exact h)
        simp [this]
theorem rowTo_rel {R : S → T → Prop} (next : S → Nat → S) (next' : T → Nat → T) (L : Nat) (bi : ∀ s t s' t', R s t → R s' t' → (s = s' ↔ t = t')) (s : S) (t : T) (hn : ∀ c, c < L → R (next s c) (next' t c)) (sts : List S) (sts' : List T) (h : Both2 R sts sts') (k : Nat) (hk : k ≤ L) :
    Both2 R (rowTo next s sts k).1 (rowTo next' t sts' k).1 ∧ (rowTo next s sts k).2 = (rowTo next' t sts' k).2 := by
  induction k with
  | zero => exact ⟨h, rfl⟩
  | succ k ih =>
    obtain ⟨h1, h2⟩ := ih (by omega)
    have hr := hn k (by omega)
    obtain ⟨m1, m2⟩ := h1.mem bi hr
    by_cases hm : next s k ∈ (rowTo next s sts k).1
    · rw [rowTo_old _ _ _ _ hm, rowTo_old _ _ _ _ (m1.1 hm)]
      exact ⟨h1, by dsimp only; rw [h2, m2 hm]⟩
    · rw [rowTo_new _ _ _ _ hm, rowTo_new _ _ _ _ (fun hh => hm (m1.2 hh))]
      exact ⟨h1.snoc hr, by dsimp only; rw [h2, h1.1]⟩
theorem listTo_rel {R : S → T → Prop} (L : Nat) (next : S → Nat → S) (next' : T → Nat → T) (acc : S → Bool) (acc' : T → Bool) (s0 : S) (t0 : T) (bi : ∀ s t s' t', R s t → R s' t' → (s = s' ↔ t = t')) (h0 : R s0 t0) (hn : ∀ s t c, R s t → c < L → R (next s c) (next' t c)) (ha : ∀ s t, R s t → acc s = acc' t) (i : Nat) :
    Both2 R (listTo L next acc s0 i).1 (listTo L next' acc' t0 i).1 ∧ (listTo L next acc s0 i).2 = (listTo L next' acc' t0 i).2 := by
  induction i with
  | zero => exact ⟨⟨rfl, fun i s t hs ht => by
      cases i with
      | zero => simp [listTo] at hs ht; subst hs; subst ht; exact h0
      | succ i => simp [listTo] at hs⟩, rfl⟩
  | succ i ih =>
    obtain ⟨h1, h2⟩ := ih
    have hr : R ((listTo L next acc s0 i).1[i]?.getD s0) ((listTo L next' acc' t0 i).1[i]?.getD t0) := by
      by_cases hi : i < (listTo L next acc s0 i).1.length
      · have hi2 : i < (listTo L next' acc' t0 i).1.length := by have := h1.1; omega
        rw [List.getElem?_eq_getElem hi, List.getElem?_eq_getElem hi2]
        exact h1.2 i _ _ (List.getElem?_eq_getElem hi) (List.getElem?_eq_getElem hi2)
      · rw [List.getElem?_eq_none (by omega), List.getElem?_eq_none (by have := h1.1; omega)]
        exact h0
    obtain ⟨g1, g2⟩ := rowTo_rel next next' L bi _ _ (fun c hc => hn _ _ c hr hc) _ _ h1 L (Nat.le_refl _)
    rw [listTo, listTo]
    refine ⟨g1, ?_⟩
    dsimp only
    rw [g2, ha _ _ hr, h2]
end

section
variable {S : Type} [DecidableEq S]
theorem rowTo_pre (next : S → Nat → S) (s : S) (sts : List S) (k : Nat) : sts <+: (rowTo next s sts k).1 := by
  induction k with
  | zero => exact List.prefix_refl _
  | succ k ih =>
    by_cases hm : next s k ∈ (rowTo next s sts k).1
    · rw [rowTo_old _ _ _ _ hm]; exact ih
    · rw [rowTo_new _ _ _ _ hm]; exact ih.trans (List.prefix_append _ _)
/-- Each letter's entry is the place of the state that it leads to. -/
theorem rowTo_get (next : S → Nat → S) (s : S) (sts : List S) (k : Nat) : ∀ c, c < k → ∃ j : Nat, (rowTo next s sts k).2[c]? = some (j : Int) ∧ (rowTo next s sts k).1[j]? = some (next s c) := by
  induction k with
  | zero => intro c hc; omega
  | succ k ih =>
    intro c hc
    have hl := rowTo_len next s sts k
    by_cases hm : next s k ∈ (rowTo next s sts k).1
    · rw [rowTo_old _ _ _ _ hm]
      by_cases e : c = k
      · subst e
        exact ⟨_, by dsimp only; rw [List.getElem?_append_right (by omega), hl, Nat.sub_self]; rfl, (idxOf_get hm).2⟩
      · obtain ⟨j, h1, h2⟩ := ih c (by omega)
        exact ⟨j, by dsimp only; rw [List.getElem?_append_left (by omega)]; exact h1, h2⟩
    · rw [rowTo_new _ _ _ _ hm]
      by_cases e : c = k
      · subst e
        exact ⟨_, by dsimp only; rw [List.getElem?_append_right (by omega), hl, Nat.sub_self]; rfl, by simp⟩
      · obtain ⟨j, h1, h2⟩ := ih c (by omega)
        refine ⟨j, by dsimp only; rw [List.getElem?_append_left (by omega)]; exact h1, ?_⟩
        have hj : j < (rowTo next s sts k).1.length := (List.getElem?_eq_some_iff.1 h2).1
        dsimp only
        rw [List.getElem?_append_left hj]; exact h2
theorem listTo_pre (L : Nat) (next : S → Nat → S) (acc : S → Bool) (s0 : S) (i : Nat) : ∀ j, j ≤ i → (listTo L next acc s0 j).1 <+: (listTo L next acc s0 i).1 := by
  induction i with
  | zero => intro j hj; obtain rfl : j = 0 := by omega
            exact List.prefix_refl _
  | succ i ih =>
    intro j hj
    by_cases e : j = i + 1
    · subst e; exact List.prefix_refl _
    · exact (ih j (by omega)).trans (rowTo_pre _ _ _ _)
/-- What the listing says of each state. -/
theorem listTo_get (L : Nat) (next : S → Nat → S) (acc : S → Bool) (s0 : S) (i : Nat) (hf : ∀ j, j < i → j < (listTo L next acc s0 j).1.length) : ∀ j, j < i → ∃ s r, (listTo L next acc s0 i).1[j]? = some s ∧ (listTo L next acc s0 i).2.1[j]? = some r ∧ (listTo L next acc s0 i).2.2[j]? = some (acc s) ∧ r.length = L ∧ ∀ c, c < L → ∃ q : Nat, r[c]? = some (q : Int) ∧ (listTo L next acc s0 i).1[q]? = some (next s c) := by
  induction i with
  | zero => intro j hj; omega
  | succ i ih =>
    intro j hj
    obtain ⟨l1, l2⟩ := listTo_len L next acc s0 i
    have hp : (listTo L next acc s0 i).1 <+: (listTo L next acc s0 (i + 1)).1 := listTo_pre L next acc s0 (i + 1) i (by omega)
    by_cases e : j = i
    · subst e
      have hj2 := hf j (by omega)
      have hs : (listTo L next acc s0 j).1[j]? = some ((listTo L next acc s0 j).1[j]?.getD s0) := by rw [List.getElem?_eq_getElem hj2]; rfl
      refine ⟨_, _, pre_get hp hs, by rw [listTo]; dsimp only; rw [List.getElem?_append_right (by omega), l1, Nat.sub_self]; rfl, by rw [listTo]; dsimp only; rw [List.getElem?_append_right (by omega), l2, Nat.sub_self]; rfl, rowTo_len _ _ _ _, fun c hc => ?_⟩
      exact rowTo_get next _ _ L c hc
    · obtain ⟨s, r, h1, h2, h3, h4, h5⟩ := ih (fun j hj => hf j (by omega)) j (by omega)
      refine ⟨s, r, pre_get hp h1, by rw [listTo]; dsimp only; rw [List.getElem?_append_left (by omega)]; exact h2, by rw [listTo]; dsimp only; rw [List.getElem?_append_left (by omega)]; exact h3, h4, fun c hc => ?_⟩
      obtain ⟨q, g1, g2⟩ := h5 c hc
      exact ⟨q, g1, pre_get hp g2⟩
theorem listTo_first (L : Nat) (next : S → Nat → S) (acc : S → Bool) (s0 : S) (i : Nat) : (listTo L next acc s0 i).1[0]? = some s0 := pre_get (listTo_pre L next acc s0 i 0 (by omega)) rfl
end


/-- Words over L letters. -/
def Wd (L : Nat) (w : List Nat) : Prop := ∀ c ∈ w, c < L
abbrev Lang := List Nat → Bool
noncomputable instance langDec : DecidableEq Lang := fun a b => Classical.propDecidable (a = b)
open Classical in
/-- What is accepted from a state. -/
noncomputable def langOf {S : Type} (L : Nat) (next : S → Nat → S) (acc : S → Bool) (s : S) : Lang := fun w => if Wd L w then acc (w.foldl next s) else false
def dv (f : Lang) (c : Nat) : Lang := fun w => f (c :: w)
def ep (f : Lang) : Bool := f []
theorem wd_nil (L : Nat) : Wd L [] := fun c h => by cases h
theorem wd_cons {L c : Nat} {w : List Nat} : Wd L (c :: w) ↔ c < L ∧ Wd L w := by
  unfold Wd; simp
theorem wd_append {L : Nat} {v w : List Nat} : Wd L (v ++ w) ↔ Wd L v ∧ Wd L w := by
  unfold Wd; simp only [List.mem_append]
  exact ⟨fun h => ⟨fun c hc => h c (.inl hc), fun c hc => h c (.inr hc)⟩, fun h c hc => hc.elim (h.1 c) (h.2 c)⟩
section
variable {S : Type} {L : Nat} {next : S → Nat → S} {acc : S → Bool}
theorem langOf_ep (s : S) : ep (langOf L next acc s) = acc s := by
  unfold ep langOf; rw [if_pos (wd_nil L)]; rfl
theorem langOf_dv (s : S) (c : Nat) (hc : c < L) : dv (langOf L next acc s) c = langOf L next acc (next s c) := by
  funext w
  unfold dv langOf
  by_cases h : Wd L w
  · rw [if_pos (wd_cons.2 ⟨hc, h⟩), if_pos h]; rfl
  · rw [if_neg (fun hh => h (wd_cons.1 hh).2), if_neg h]
theorem langOf_eq (s t : S) : langOf L next acc s = langOf L next acc t ↔ ∀ w, Wd L w → acc (w.foldl next s) = acc (w.foldl next t) := by
  constructor
  · intro h w hw
    have := congrFun h w
    unfold langOf at this
    rwa [if_pos hw, if_pos hw] at this
  · intro h
    funext w
    unfold langOf
    by_cases hw : Wd L w
    · rw [if_pos hw, if_pos hw, h w hw]
    · rw [if_neg hw, if_neg hw]
end
/-- Two automata whose states go together have the same languages. -/
theorem langOf_rel {S T : Type} {R : S → T → Prop} (L : Nat) (next : S → Nat → S) (next' : T → Nat → T) (acc : S → Bool) (acc' : T → Bool) (hn : ∀ s t c, R s t → c < L → R (next s c) (next' t c)) (ha : ∀ s t, R s t → acc s = acc' t) (s : S) (t : T) (h : R s t) : langOf L next acc s = langOf L next' acc' t := by
  funext w
  unfold langOf
  by_cases hw : Wd L w
  · rw [if_pos hw, if_pos hw]
    induction w generalizing s t with
    | nil => exact ha s t h
    | cons c w ih => exact ih _ _ (hn s t c h (wd_cons.1 hw).1) (wd_cons.1 hw).2
  · rw [if_neg hw, if_neg hw]

section
variable {S : Type} [DecidableEq S]
/-- All states are there when all have been looked at. -/
theorem full_closed {L : Nat} {next : S → Nat → S} {acc : S → Bool} {s0 : S} {i : Nat} (hi : i = (listTo L next acc s0 i).1.length) (hf : ∀ j, j < i → j < (listTo L next acc s0 j).1.length) : s0 ∈ (listTo L next acc s0 i).1 ∧ ∀ s ∈ (listTo L next acc s0 i).1, ∀ c, c < L → next s c ∈ (listTo L next acc s0 i).1 := by
  refine ⟨List.mem_of_getElem? (listTo_first L next acc s0 i), fun s hs c hc => ?_⟩
  obtain ⟨j, hj, rfl⟩ := List.getElem_of_mem hs
  obtain ⟨s', r, h1, h2, h3, h4, h5⟩ := listTo_get L next acc s0 i hf j (by omega)
  rw [List.getElem?_eq_getElem hj] at h1
  obtain rfl := Option.some.inj h1
  obtain ⟨q, g1, g2⟩ := h5 c hc
  exact List.mem_of_getElem? g2
theorem full_reach {L : Nat} {next : S → Nat → S} {acc : S → Bool} {s0 : S} {i : Nat} (hi : i = (listTo L next acc s0 i).1.length) (hf : ∀ j, j < i → j < (listTo L next acc s0 j).1.length) (w : List Nat) (hw : Wd L w) : w.foldl next s0 ∈ (listTo L next acc s0 i).1 := by
  obtain ⟨h0, h1⟩ := full_closed hi hf
  have : ∀ (w : List Nat) (s : S), s ∈ (listTo L next acc s0 i).1 → Wd L w → w.foldl next s ∈ (listTo L next acc s0 i).1 := by
    intro w
    induction w with
    | nil => intro s hs _; exact hs
    | cons c w ih => intro s hs hw; exact ih _ (h1 s hs c (wd_cons.1 hw).1) (wd_cons.1 hw).2
  exact this w s0 h0 hw
/-- Each state that is listed is reached. -/
theorem listTo_reached (L : Nat) (next : S → Nat → S) (acc : S → Bool) (s0 : S) (i : Nat) : ∀ s ∈ (listTo L next acc s0 i).1, ∃ w, Wd L w ∧ w.foldl next s0 = s := by
  exact (listTo_ok L next acc s0 (Pd := fun s => ∃ w, Wd L w ∧ w.foldl next s0 = s) (fun s c h hc => by
    obtain ⟨w, h1, rfl⟩ := h
    exact ⟨w ++ [c], wd_append.2 ⟨h1, wd_cons.2 ⟨hc, wd_nil L⟩⟩, by rw [List.foldl_append]; rfl⟩) ⟨[], wd_nil L, rfl⟩ i).2.1
end
/-- The plain form of a language, as far as i states. -/
noncomputable def canon (L : Nat) (f : Lang) (i : Nat) : List Lang × List (List Int) × List Bool := listTo L dv ep f i
/-- How many states the plain form has. -/
def FullC (L : Nat) (f : Lang) (i : Nat) : Prop := i = (canon L f i).1.length ∧ ∀ j, j < i → j < (canon L f j).1.length
theorem FullC.unique {L : Nat} {f : Lang} {i j : Nat} (h : FullC L f i) (h2 : FullC L f j) : i = j := by
  rcases Nat.lt_trichotomy i j with g | g | g
  · have := h2.2 i g; have := h.1; omega
  · exact g
  · have := h.2 j g; have := h2.1; omega
/-- An automaton whose listed states have different languages lists the plain form. -/
theorem canon_of {S : Type} [DecidableEq S] {L : Nat} {next : S → Nat → S} {acc : S → Bool} {s0 : S} (Pd : S → Prop) (h0 : Pd s0) (hn : ∀ s c, Pd s → c < L → Pd (next s c)) {f : S → Lang} (hd : ∀ s c, Pd s → c < L → f (next s c) = dv (f s) c) (he : ∀ s, Pd s → acc s = ep (f s)) (hinj : ∀ s t, Pd s → Pd t → f s = f t → s = t) (i : Nat) :
    (listTo L next acc s0 i).1.map f = (canon L (f s0) i).1 ∧ (listTo L next acc s0 i).2 = (canon L (f s0) i).2 := by
  obtain ⟨h1, h2⟩ := listTo_rel (R := fun s g => Pd s ∧ f s = g) L next dv acc ep s0 (f s0) (fun s t s' t' h h' => ⟨fun e => by subst e; exact h.2.symm.trans h'.2, fun e => hinj _ _ h.1 h'.1 (by rw [h.2, h'.2, e])⟩) ⟨h0, rfl⟩ (fun s t c h hc => ⟨hn s c h.1 hc, by rw [hd s c h.1 hc, h.2]⟩) (fun s t h => by rw [he s h.1, h.2]) i
  refine ⟨?_, h2⟩
  apply List.ext_getElem?
  intro k
  rw [List.getElem?_map]
  by_cases hk : k < (listTo L next acc s0 i).1.length
  · rw [List.getElem?_eq_getElem hk]
    have hk2 : k < (canon L (f s0) i).1.length := by have := h1.1; unfold canon; omega
    have := (h1.2 k _ _ (List.getElem?_eq_getElem hk) (List.getElem?_eq_getElem hk2)).2
    rw [List.getElem?_eq_getElem hk2, Option.map_some, this]
  · rw [List.getElem?_eq_none (by omega), List.getElem?_eq_none (by have := h1.1; unfold canon; omega)]; rfl
theorem fullC_of {S : Type} [DecidableEq S] {L : Nat} {next : S → Nat → S} {acc : S → Bool} {s0 : S} {f : Lang} (h : ∀ i, (listTo L next acc s0 i).1.length = (canon L f i).1.length) {i : Nat} (hi : i = (listTo L next acc s0 i).1.length) (hf : ∀ j, j < i → j < (listTo L next acc s0 j).1.length) : FullC L f i :=
  ⟨by rw [← h]; exact hi, fun j hj => by rw [← h]; exact hf j hj⟩
/-- The plain form's states are the languages behind words. -/
theorem canon_mem {L : Nat} {f : Lang} {i : Nat} (h : FullC L f i) (g : Lang) : g ∈ (canon L f i).1 ↔ ∃ w, Wd L w ∧ w.foldl dv f = g :=
  ⟨fun hg => listTo_reached L dv ep f i g hg, fun ⟨w, hw, e⟩ => by rw [← e]; exact full_reach h.1 h.2 w hw⟩
theorem canon_nodup (L : Nat) (f : Lang) (i : Nat) : (canon L f i).1.Nodup := (listTo_ok L dv ep f (Pd := fun _ => True) (fun _ _ _ _ => trivial) trivial i).1
end Go.Proofs.Ytkboeldafppicaa
set_option linter.unusedVariables false
namespace Go.Proofs.Ytkboeldafppicaa

section
variable (L : Nat) (next : Nat → Nat → Nat) (acc : Nat → Bool)
/-- Whether two states accept the same words of fewer than k letters. -/
def eqk : Nat → Nat → Nat → Bool
  | 0, _, _ => true
  | k + 1, s, t => (acc s == acc t) && (List.range L).all (fun c => eqk k (next s c) (next t c))
def fsk (k s : Nat) : Nat := ((List.range (s + 1)).find? (fun t => eqk L next acc k t s)).getD s
/-- The first states of the kinds below m. -/
def repsk (k m : Nat) : List Nat := (List.range m).filter (fun s => fsk L next acc k s == s)
end
section
variable {L : Nat} {next : Nat → Nat → Nat} {acc : Nat → Bool}
theorem eqk_succ {k s t : Nat} : eqk L next acc (k + 1) s t = true ↔ acc s = acc t ∧ ∀ c, c < L → eqk L next acc k (next s c) (next t c) = true := by
  rw [eqk]; simp
theorem eqk_refl (k s : Nat) : eqk L next acc k s s = true := by
  induction k generalizing s with
  | zero => rfl
  | succ k ih => exact eqk_succ.2 ⟨rfl, fun c _ => ih _⟩
theorem eqk_symm {k s t : Nat} (h : eqk L next acc k s t = true) : eqk L next acc k t s = true := by
  induction k generalizing s t with
  | zero => rfl
  | succ k ih => obtain ⟨h1, h2⟩ := eqk_succ.1 h; exact eqk_succ.2 ⟨h1.symm, fun c hc => ih (h2 c hc)⟩
theorem eqk_trans {k s t u : Nat} (h : eqk L next acc k s t = true) (g : eqk L next acc k t u = true) : eqk L next acc k s u = true := by
  induction k generalizing s t u with
  | zero => rfl
  | succ k ih => obtain ⟨h1, h2⟩ := eqk_succ.1 h; obtain ⟨g1, g2⟩ := eqk_succ.1 g; exact eqk_succ.2 ⟨h1.trans g1, fun c hc => ih (h2 c hc) (g2 c hc)⟩
theorem eqk_less {k s t : Nat} (h : eqk L next acc (k + 1) s t = true) : eqk L next acc k s t = true := by
  induction k generalizing s t with
  | zero => rfl
  | succ k ih => obtain ⟨h1, h2⟩ := eqk_succ.1 h; exact eqk_succ.2 ⟨h1, fun c hc => ih (h2 c hc)⟩
theorem fsk_spec (k s : Nat) : fsk L next acc k s ≤ s ∧ eqk L next acc k (fsk L next acc k s) s = true ∧ ∀ t, t < fsk L next acc k s → eqk L next acc k t s = false := by
  unfold fsk
  cases h : (List.range (s + 1)).find? (fun t => eqk L next acc k t s) with
  | none =>
    have := List.find?_eq_none.1 h s (by simp)
    exact absurd (eqk_refl k s) this
  | some i =>
    obtain ⟨h1, h2, h3⟩ := List.find?_range_eq_some.1 h
    refine ⟨by have := List.mem_range.1 h2; simp; omega, h1, fun t ht => ?_⟩
    have := h3 t ht
    simpa using this
theorem fsk_le (k s : Nat) : fsk L next acc k s ≤ s := (fsk_spec k s).1
theorem fsk_eq {k s t : Nat} : fsk L next acc k s = fsk L next acc k t ↔ eqk L next acc k s t = true := by
  obtain ⟨a1, a2, a3⟩ := fsk_spec (L := L) (next := next) (acc := acc) k s
  obtain ⟨b1, b2, b3⟩ := fsk_spec (L := L) (next := next) (acc := acc) k t
  constructor
  · intro h; rw [h] at a2; exact eqk_trans (eqk_symm a2) b2
  · intro h
    rcases Nat.lt_trichotomy (fsk L next acc k s) (fsk L next acc k t) with g | g | g
    · have := b3 _ g; rw [eqk_trans a2 h] at this; cases this
    · exact g
    · have := a3 _ g; rw [eqk_trans b2 (eqk_symm h)] at this; cases this
theorem fsk_idem (k s : Nat) : fsk L next acc k (fsk L next acc k s) = fsk L next acc k s := fsk_eq.2 (fsk_spec k s).2.1
theorem mem_repsk {k m r : Nat} : r ∈ repsk L next acc k m ↔ r < m ∧ fsk L next acc k r = r := by
  unfold repsk; simp
theorem repsk_nodup (k m : Nat) : (repsk L next acc k m).Nodup := by
  unfold repsk; exact List.Nodup.sublist (List.filter_sublist) List.nodup_range
theorem repsk_succ (k m : Nat) : repsk L next acc k (m + 1) = if fsk L next acc k m = m then repsk L next acc k m ++ [m] else repsk L next acc k m := by
  unfold repsk
  rw [List.range_succ, List.filter_append]
  by_cases h : fsk L next acc k m = m
  · rw [if_pos h]; simp [h]
  · rw [if_neg h]; simp [h]
theorem repsk_sub (k m : Nat) : ∀ r ∈ repsk L next acc k m, r ∈ repsk L next acc (k + 1) m := by
  intro r hr
  obtain ⟨h1, h2⟩ := mem_repsk.1 hr
  refine mem_repsk.2 ⟨h1, ?_⟩
  obtain ⟨a1, a2, a3⟩ := fsk_spec (L := L) (next := next) (acc := acc) (k + 1) r
  have : fsk L next acc k (fsk L next acc (k + 1) r) = fsk L next acc k r := fsk_eq.2 (eqk_less a2)
  have h3 := fsk_le (L := L) (next := next) (acc := acc) k (fsk L next acc (k + 1) r)
  omega
theorem nodup_le {S : Type} [DecidableEq S] : ∀ (l m : List S), l.Nodup → (∀ x ∈ l, x ∈ m) → l.length ≤ m.length
  | [], m, _, _ => Nat.zero_le _
  | x :: l, m, hn, h => by
    obtain ⟨h1, h2⟩ := List.nodup_cons.1 hn
    have hx := h x (by simp)
    have := nodup_le l (m.erase x) h2 (fun y hy => (List.mem_erase_of_ne (fun e => by subst e; exact h1 hy)).2 (h y (by simp [hy])))
    rw [List.length_erase, if_pos hx] at this
    have := List.length_pos_of_mem hx
    simp; omega
theorem nodup_all {S : Type} [DecidableEq S] (l m : List S) (hn : l.Nodup) (h : ∀ x ∈ l, x ∈ m) (hl : m.length ≤ l.length) : ∀ x ∈ m, x ∈ l := by
  intro x hx
  apply Classical.byContradiction
  intro hnot
  have := nodup_le (x :: l) m (List.nodup_cons.2 ⟨hnot, hn⟩) (fun y hy => by rcases List.mem_cons.1 hy with e | e; exact e ▸ hx; exact h y e)
  simp at this; omega
theorem repsk_len_le (k m : Nat) : (repsk L next acc k m).length ≤ (repsk L next acc (k + 1) m).length := nodup_le _ _ (repsk_nodup k m) (repsk_sub k m)
theorem repsk_len (k m : Nat) : (repsk L next acc k m).length ≤ m := by
  have := nodup_le (repsk L next acc k m) (List.range m) (repsk_nodup k m) (fun x hx => List.mem_range.2 (mem_repsk.1 hx).1)
  simpa using this
theorem repsk_zero (m : Nat) (hm : 0 < m) : (repsk L next acc 0 m).length = 1 := by
  have h0 : ∀ s, fsk L next acc 0 s = 0 := fun s => by
    have := (fsk_spec (L := L) (next := next) (acc := acc) 0 s).2.2 0
    rcases Nat.eq_zero_or_pos (fsk L next acc 0 s) with e | e
    · exact e
    · have := this e; simp [eqk] at this
  have : repsk L next acc 0 m = [0] := by
    induction m with
    | zero => omega
    | succ m ih =>
      rw [repsk_succ, h0]
      by_cases e : m = 0
      · subst e; rw [if_pos rfl]; rfl
      · rw [if_neg (fun h => e h.symm)]; exact ih (by omega)
  rw [this]; rfl
theorem stable_step {k n : Nat} (hcl : ∀ s c, s < n → c < L → next s c < n) (hs : (repsk L next acc (k + 1) n).length ≤ (repsk L next acc k n).length) {s t : Nat} (h1 : s < n) (h2 : t < n) (h : eqk L next acc k s t = true) : eqk L next acc (k + 1) s t = true := by
  have hall := nodup_all _ _ (repsk_nodup k n) (repsk_sub k n) hs
  have key : ∀ u, u < n → fsk L next acc k (fsk L next acc (k + 1) u) = fsk L next acc (k + 1) u := fun u hu =>
    (mem_repsk.1 (hall _ (mem_repsk.2 ⟨by have := fsk_le (L := L) (next := next) (acc := acc) (k + 1) u; omega, fsk_idem _ _⟩))).2
  have ks := key s h1
  have kt := key t h2
  have e1 : fsk L next acc k (fsk L next acc (k + 1) s) = fsk L next acc k s := fsk_eq.2 (eqk_less (fsk_spec _ _).2.1)
  have e2 : fsk L next acc k (fsk L next acc (k + 1) t) = fsk L next acc k t := fsk_eq.2 (eqk_less (fsk_spec _ _).2.1)
  have e3 := fsk_eq.2 h
  exact fsk_eq.1 (by rw [← ks, ← kt, e1, e2, e3])
theorem stable_all {k n : Nat} (hcl : ∀ s c, s < n → c < L → next s c < n) (hs : (repsk L next acc (k + 1) n).length ≤ (repsk L next acc k n).length) (j : Nat) : ∀ {s t : Nat}, s < n → t < n → eqk L next acc k s t = true → eqk L next acc (k + j) s t = true := by
  induction j with
  | zero => intro s t _ _ h; exact h
  | succ j ih =>
    intro s t h1 h2 h
    have h3 := stable_step hcl hs h1 h2 h
    obtain ⟨g1, g2⟩ := eqk_succ.1 h3
    exact eqk_succ.2 ⟨g1, fun c hc => ih (hcl s c h1 hc) (hcl t c h2 hc) (g2 c hc)⟩
theorem eqk_lang {s t : Nat} : langOf L next acc s = langOf L next acc t ↔ ∀ k, eqk L next acc k s t = true := by
  rw [langOf_eq]
  constructor
  · intro h k
    induction k generalizing s t with
    | zero => rfl
    | succ k ih => exact eqk_succ.2 ⟨h [] (wd_nil L), fun c hc => ih (fun w hw => h (c :: w) (wd_cons.2 ⟨hc, hw⟩))⟩
  · intro h w
    induction w generalizing s t with
    | nil => intro _; exact (eqk_succ.1 (h 1)).1
    | cons c w ih => intro hw; exact ih (fun k => (eqk_succ.1 (h (k + 1))).2 c (wd_cons.1 hw).1) (wd_cons.1 hw).2
theorem stable_lang {k n : Nat} (hcl : ∀ s c, s < n → c < L → next s c < n) (hs : (repsk L next acc (k + 1) n).length ≤ (repsk L next acc k n).length) {s t : Nat} (h1 : s < n) (h2 : t < n) : eqk L next acc (k + 1) s t = true ↔ langOf L next acc s = langOf L next acc t := by
  rw [eqk_lang]
  constructor
  · intro h j
    have h4 := stable_all hcl hs j h1 h2 (eqk_less h)
    have : ∀ d, eqk L next acc (j + d) s t = true → eqk L next acc j s t = true := by
      intro d
      induction d with
      | zero => exact id
      | succ d ih => intro hh; exact ih (eqk_less hh)
    exact this k (by rw [Nat.add_comm]; exact h4)
  · intro h; exact h (k + 1)
/-- There are at least as many languages as first states; as many, if the partition is stable. -/
theorem reps_canon_le {k n s0 i : Nat} (hreach : ∀ s, s < n → ∃ w, Wd L w ∧ w.foldl next s0 = s) (hF : FullC L (langOf L next acc s0) i) : (repsk L next acc k n).length ≤ i := by
  have hl : ((repsk L next acc k n).map (langOf L next acc)).Nodup := by
    rw [List.nodup_iff_pairwise_ne, List.pairwise_map]
    refine (List.Pairwise.and_mem.1 (repsk_nodup k n)).imp (fun {a b} h hh => h.2.2 ?_)
    have := fsk_eq.2 (eqk_lang.1 hh k)
    rw [(mem_repsk.1 h.1).2, (mem_repsk.1 h.2.1).2] at this
    exact this
  have := nodup_le _ (canon L (langOf L next acc s0) i).1 hl (fun g hg => by
    obtain ⟨r, hr, rfl⟩ := List.mem_map.1 hg
    obtain ⟨w, hw, rfl⟩ := hreach r (mem_repsk.1 hr).1
    refine (canon_mem hF _).2 ⟨w, hw, ?_⟩
    clear hr hg hF hl hreach
    induction w generalizing s0 with
    | nil => rfl
    | cons c w ih => rw [List.foldl_cons, List.foldl_cons, langOf_dv s0 c (wd_cons.1 hw).1]; exact ih (wd_cons.1 hw).2)
  rw [List.length_map, ← hF.1] at this
  exact this
theorem foldl_dv {S : Type} {L : Nat} {next : S → Nat → S} {acc : S → Bool} (w : List Nat) (hw : Wd L w) (s : S) : w.foldl dv (langOf L next acc s) = langOf L next acc (w.foldl next s) := by
  induction w generalizing s with
  | nil => rfl
  | cons c w ih => rw [List.foldl_cons, List.foldl_cons, langOf_dv s c (wd_cons.1 hw).1]; exact ih (wd_cons.1 hw).2 _
theorem foldl_lt {n : Nat} (hcl : ∀ s c, s < n → c < L → next s c < n) (w : List Nat) (hw : Wd L w) (s : Nat) (hs : s < n) : w.foldl next s < n := by
  induction w generalizing s with
  | nil => exact hs
  | cons c w ih => exact ih (wd_cons.1 hw).2 _ (hcl s c hs (wd_cons.1 hw).1)
theorem reps_canon_eq {k n s0 i : Nat} (hcl : ∀ s c, s < n → c < L → next s c < n) (h0 : s0 < n) (hreach : ∀ s, s < n → ∃ w, Wd L w ∧ w.foldl next s0 = s) (hF : FullC L (langOf L next acc s0) i) (hs : (repsk L next acc (k + 1) n).length ≤ (repsk L next acc k n).length) : (repsk L next acc (k + 1) n).length = i := by
  refine Nat.le_antisymm (reps_canon_le hreach hF) ?_
  have := nodup_le (canon L (langOf L next acc s0) i).1 ((repsk L next acc (k + 1) n).map (langOf L next acc)) (canon_nodup L _ i) (fun g hg => by
    obtain ⟨w, hw, rfl⟩ := (canon_mem hF g).1 hg
    rw [foldl_dv w hw]
    have hlt := foldl_lt hcl w hw s0 h0
    have hle := fsk_le (L := L) (next := next) (acc := acc) (k + 1) (w.foldl next s0)
    exact List.mem_map.2 ⟨_, mem_repsk.2 ⟨Nat.lt_of_le_of_lt hle hlt, fsk_idem _ _⟩, (stable_lang hcl hs (Nat.lt_of_le_of_lt hle hlt) hlt).1 (fsk_spec _ _).2.1⟩)
  rw [List.length_map, ← hF.1] at this
  exact this
end
end Go.Proofs.Ytkboeldafppicaa
