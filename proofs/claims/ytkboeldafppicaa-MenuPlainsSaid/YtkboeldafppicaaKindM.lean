/- Kinds of states: the refinement of a partition. Plain mathematics. -/
import Derived.Test.YtkboeldafppicaaCanM
set_option linter.unusedVariables false
namespace Go.Proofs.Ytkboeldafppicaa

section
variable (L : Nat) (next : Nat → Nat → Nat) (acc : Nat → Bool)
/-- Whether two states accept the same words of fewer than k letters. -/
def eqk : Nat → Nat → Nat → Bool
  | 0, _, _ => true
  | k + 1, s, t => (acc s == acc t) && (List.range L).all (fun c => eqk k (next s c) (next t c))
def fsk (k s : Nat) : Nat := ((List.range (s + 1)).find? (fun t => eqk L next acc k t s)).getD s
/-- The first states of the kinds below m. -/
def repsk (k m : Nat) : List Nat := (List.range m).filter (fun s => fsk L next acc k s == s)
end
section
variable {L : Nat} {next : Nat → Nat → Nat} {acc : Nat → Bool}
theorem eqk_succ {k s t : Nat} : eqk L next acc (k + 1) s t = true ↔ acc s = acc t ∧ ∀ c, c < L → eqk L next acc k (next s c) (next t c) = true := by
  rw [eqk]; simp
theorem eqk_refl (k s : Nat) : eqk L next acc k s s = true := by
  induction k generalizing s with
  | zero => rfl
  | succ k ih => exact eqk_succ.2 ⟨rfl, fun c _ => ih _⟩
theorem eqk_symm {k s t : Nat} (h : eqk L next acc k s t = true) : eqk L next acc k t s = true := by
  induction k generalizing s t with
  | zero => rfl
  | succ k ih => obtain ⟨h1, h2⟩ := eqk_succ.1 h; exact eqk_succ.2 ⟨h1.symm, fun c hc => ih (h2 c hc)⟩
theorem eqk_trans {k s t u : Nat} (h : eqk L next acc k s t = true) (g : eqk L next acc k t u = true) : eqk L next acc k s u = true := by
  induction k generalizing s t u with
  | zero => rfl
  | succ k ih => obtain ⟨h1, h2⟩ := eqk_succ.1 h; obtain ⟨g1, g2⟩ := eqk_succ.1 g; exact eqk_succ.2 ⟨h1.trans g1, fun c hc => ih (h2 c hc) (g2 c hc)⟩
theorem eqk_less {k s t : Nat} (h : eqk L next acc (k + 1) s t = true) : eqk L next acc k s t = true := by
  induction k generalizing s t with
  | zero => rfl
  | succ k ih => obtain ⟨h1, h2⟩ := eqk_succ.1 h; exact eqk_succ.2 ⟨h1, fun c hc => ih (h2 c hc)⟩
theorem fsk_spec (k s : Nat) : fsk L next acc k s ≤ s ∧ eqk L next acc k (fsk L next acc k s) s = true ∧ ∀ t, t < fsk L next acc k s → eqk L next acc k t s = false := by
  unfold fsk
  cases h : (List.range (s + 1)).find? (fun t => eqk L next acc k t s) with
  | none =>
    have := List.find?_eq_none.1 h s (by simp)
    exact absurd (eqk_refl k s) this
  | some i =>
    obtain ⟨h1, h2, h3⟩ := List.find?_range_eq_some.1 h
    refine ⟨by have := List.mem_range.1 h2; simp; omega, h1, fun t ht => ?_⟩
    have := h3 t ht
    simpa using this
theorem fsk_le (k s : Nat) : fsk L next acc k s ≤ s := (fsk_spec k s).1
theorem fsk_eq {k s t : Nat} : fsk L next acc k s = fsk L next acc k t ↔ eqk L next acc k s t = true := by
  obtain ⟨a1, a2, a3⟩ := fsk_spec (L := L) (next := next) (acc := acc) k s
  obtain ⟨b1, b2, b3⟩ := fsk_spec (L := L) (next := next) (acc := acc) k t
  constructor
  · intro h; rw [h] at a2; exact eqk_trans (eqk_symm a2) b2
  · intro h
    rcases Nat.lt_trichotomy (fsk L next acc k s) (fsk L next acc k t) with g | g | g
    · have := b3 _ g; rw [eqk_trans a2 h] at this; cases this
    · exact g
    · have := a3 _ g; rw [eqk_trans b2 (eqk_symm h)] at this; cases this
theorem fsk_idem (k s : Nat) : fsk L next acc k (fsk L next acc k s) = fsk L next acc k s := fsk_eq.2 (fsk_spec k s).2.1
theorem mem_repsk {k m r : Nat} : r ∈ repsk L next acc k m ↔ r < m ∧ fsk L next acc k r = r := by
  unfold repsk; simp
theorem repsk_nodup (k m : Nat) : (repsk L next acc k m).Nodup := by
  unfold repsk; exact List.Nodup.sublist (List.filter_sublist) List.nodup_range
theorem repsk_succ (k m : Nat) : repsk L next acc k (m + 1) = if fsk L next acc k m = m then repsk L next acc k m ++ [m] else repsk L next acc k m := by
  unfold repsk
  rw [List.range_succ, List.filter_append]
  by_cases h : fsk L next acc k m = m
  · rw [if_pos h]; simp [h]
  · rw [if_neg h]; simp [h]
theorem repsk_sub (k m : Nat) : ∀ r ∈ repsk L next acc k m, r ∈ repsk L next acc (k + 1) m := by
  intro r hr
  obtain ⟨h1, h2⟩ := mem_repsk.1 hr
  refine mem_repsk.2 ⟨h1, ?_⟩
  obtain ⟨a1, a2, a3⟩ := fsk_spec (L := L) (next := next) (acc := acc) (k + 1) r
  have : fsk L next acc k (fsk L next acc (k + 1) r) = fsk L next acc k r := fsk_eq.2 (eqk_less a2)
  have h3 := fsk_le (L := L) (next := next) (acc := acc) k (fsk L next acc (k + 1) r)
  omega
theorem nodup_le {S : Type} [DecidableEq S] : ∀ (l m : List S), l.Nodup → (∀ x ∈ l, x ∈ m) → l.length ≤ m.length
  | [], m, _, _ => Nat.zero_le _
  | x :: l, m, hn, h => by
    obtain ⟨h1, h2⟩ := List.nodup_cons.1 hn
    have hx := h x (by simp)
    have := nodup_le l (m.erase x) h2 (fun y hy => (List.mem_erase_of_ne (fun e => by subst e; exact h1 hy)).2 (h y (by simp [hy])))
    rw [List.length_erase, if_pos hx] at this
    have := List.length_pos_of_mem hx
    simp; omega
theorem nodup_all {S : Type} [DecidableEq S] (l m : List S) (hn : l.Nodup) (h : ∀ x ∈ l, x ∈ m) (hl : m.length ≤ l.length) : ∀ x ∈ m, x ∈ l := by
  intro x hx
  apply Classical.byContradiction
  intro hnot
  have := nodup_le (x :: l) m (List.nodup_cons.2 ⟨hnot, hn⟩) (fun y hy => by rcases List.mem_cons.1 hy with e | e; exact e ▸ hx; exact h y e)
  simp at this; omega
theorem repsk_len_le (k m : Nat) : (repsk L next acc k m).length ≤ (repsk L next acc (k + 1) m).length := nodup_le _ _ (repsk_nodup k m) (repsk_sub k m)
theorem repsk_len (k m : Nat) : (repsk L next acc k m).length ≤ m := by
  have := nodup_le (repsk L next acc k m) (List.range m) (repsk_nodup k m) (fun x hx => List.mem_range.2 (mem_repsk.1 hx).1)
  simpa using this
theorem repsk_zero (m : Nat) (hm : 0 < m) : (repsk L next acc 0 m).length = 1 := by
  have h0 : ∀ s, fsk L next acc 0 s = 0 := fun s => by
    have := (fsk_spec (L := L) (next := next) (acc := acc) 0 s).2.2 0
    rcases Nat.eq_zero_or_pos (fsk L next acc 0 s) with e | e
    · exact e
    · have := this e; simp [eqk] at this
  have : repsk L next acc 0 m = [0] := by
    induction m with
    | zero => omega
    | succ m ih =>
      rw [repsk_succ, h0]
      by_cases e : m = 0
      · subst e; rw [if_pos rfl]; rfl
      · rw [if_neg (fun h => e h.symm)]; exact ih (by omega)
  rw [this]; rfl
theorem stable_step {k n : Nat} (hcl : ∀ s c, s < n → c < L → next s c < n) (hs : (repsk L next acc (k + 1) n).length ≤ (repsk L next acc k n).length) {s t : Nat} (h1 : s < n) (h2 : t < n) (h : eqk L next acc k s t = true) : eqk L next acc (k + 1) s t = true := by
  have hall := nodup_all _ _ (repsk_nodup k n) (repsk_sub k n) hs
  have key : ∀ u, u < n → fsk L next acc k (fsk L next acc (k + 1) u) = fsk L next acc (k + 1) u := fun u hu =>
    (mem_repsk.1 (hall _ (mem_repsk.2 ⟨by have := fsk_le (L := L) (next := next) (acc := acc) (k + 1) u; omega, fsk_idem _ _⟩))).2
  have ks := key s h1
  have kt := key t h2
  have e1 : fsk L next acc k (fsk L next acc (k + 1) s) = fsk L next acc k s := fsk_eq.2 (eqk_less (fsk_spec _ _).2.1)
  have e2 : fsk L next acc k (fsk L next acc (k + 1) t) = fsk L next acc k t := fsk_eq.2 (eqk_less (fsk_spec _ _).2.1)
  have e3 := fsk_eq.2 h
  exact fsk_eq.1 (by rw [← ks, ← kt, e1, e2, e3])
theorem stable_all {k n : Nat} (hcl : ∀ s c, s < n → c < L → next s c < n) (hs : (repsk L next acc (k + 1) n).length ≤ (repsk L next acc k n).length) (j : Nat) : ∀ {s t : Nat}, s < n → t < n → eqk L next acc k s t = true → eqk L next acc (k + j) s t = true := by
  induction j with
  | zero => intro s t _ _ h; exact h
  | succ j ih =>
    intro s t h1 h2 h
    have h3 := stable_step hcl hs h1 h2 h
    obtain ⟨g1, g2⟩ := eqk_succ.1 h3
    exact eqk_succ.2 ⟨g1, fun c hc => ih (hcl s c h1 hc) (hcl t c h2 hc) (g2 c hc)⟩
theorem eqk_lang {s t : Nat} : langOf L next acc s = langOf L next acc t ↔ ∀ k, eqk L next acc k s t = true := by
  rw [langOf_eq]
  constructor
  · intro h k
    induction k generalizing s t with
    | zero => rfl
    | succ k ih => exact eqk_succ.2 ⟨h [] (wd_nil L), fun c hc => ih (fun w hw => h (c :: w) (wd_cons.2 ⟨hc, hw⟩))⟩
  · intro h w
    induction w generalizing s t with
    | nil => intro _; exact (eqk_succ.1 (h 1)).1
    | cons c w ih => intro hw; exact ih (fun k => (eqk_succ.1 (h (k + 1))).2 c (wd_cons.1 hw).1) (wd_cons.1 hw).2
theorem stable_lang {k n : Nat} (hcl : ∀ s c, s < n → c < L → next s c < n) (hs : (repsk L next acc (k + 1) n).length ≤ (repsk L next acc k n).length) {s t : Nat} (h1 : s < n) (h2 : t < n) : eqk L next acc (k + 1) s t = true ↔ langOf L next acc s = langOf L next acc t := by
  rw [eqk_lang]
  constructor
  · intro h j
    have h4 := stable_all hcl hs j h1 h2 (eqk_less h)
    have : ∀ d, eqk L next acc (j + d) s t = true → eqk L next acc j s t = true := by
      intro d
      induction d with
      | zero => exact id
      | succ d ih => intro hh; exact ih (eqk_less hh)
    exact this k (by rw [Nat.add_comm]; exact h4)
  · intro h; exact h (k + 1)
/-- There are at least as many languages as first states; as many, if the partition is stable. -/
theorem reps_canon_le {k n s0 i : Nat} (hreach : ∀ s, s < n → ∃ w, Wd L w ∧ w.foldl next s0 = s) (hF : FullC L (langOf L next acc s0) i) : (repsk L next acc k n).length ≤ i := by
  have hl : ((repsk L next acc k n).map (langOf L next acc)).Nodup := by
    rw [List.nodup_iff_pairwise_ne, List.pairwise_map]
    refine (List.Pairwise.and_mem.1 (repsk_nodup k n)).imp (fun {a b} h hh => h.2.2 ?_)
    have := fsk_eq.2 (eqk_lang.1 hh k)
    rw [(mem_repsk.1 h.1).2, (mem_repsk.1 h.2.1).2] at this
    exact this
  have := nodup_le _ (canon L (langOf L next acc s0) i).1 hl (fun g hg => by
    obtain ⟨r, hr, rfl⟩ := List.mem_map.1 hg
    obtain ⟨w, hw, rfl⟩ := hreach r (mem_repsk.1 hr).1
    refine (canon_mem hF _).2 ⟨w, hw, ?_⟩
    clear hr hg hF hl hreach
    induction w generalizing s0 with
    | nil => rfl
    | cons c w ih => rw [List.foldl_cons, List.foldl_cons, langOf_dv s0 c (wd_cons.1 hw).1]; exact ih (wd_cons.1 hw).2)
  rw [List.length_map, ← hF.1] at this
  exact this
theorem foldl_dv {S : Type} {L : Nat} {next : S → Nat → S} {acc : S → Bool} (w : List Nat) (hw : Wd L w) (s : S) : w.foldl dv (langOf L next acc s) = langOf L next acc (w.foldl next s) := by
  induction w generalizing s with
  | nil => rfl
  | cons c w ih => rw [List.foldl_cons, List.foldl_cons, langOf_dv s c (wd_cons.1 hw).1]; exact ih (wd_cons.1 hw).2 _
theorem foldl_lt {n : Nat} (hcl : ∀ s c, s < n → c < L → next s c < n) (w : List Nat) (hw : Wd L w) (s : Nat) (hs : s < n) : w.foldl next s < n := by
  induction w generalizing s with
  | nil => exact hs
  | cons c w ih => exact ih (wd_cons.1 hw).2 _ (hcl s c hs (wd_cons.1 hw).1)
theorem reps_canon_eq {k n s0 i : Nat} (hcl : ∀ s c, s < n → c < L → next s c < n) (h0 : s0 < n) (hreach : ∀ s, s < n → ∃ w, Wd L w ∧ w.foldl next s0 = s) (hF : FullC L (langOf L next acc s0) i) (hs : (repsk L next acc (k + 1) n).length ≤ (repsk L next acc k n).length) : (repsk L next acc (k + 1) n).length = i := by
  refine Nat.le_antisymm (reps_canon_le hreach hF) ?_
  have := nodup_le (canon L (langOf L next acc s0) i).1 ((repsk L next acc (k + 1) n).map (langOf L next acc)) (canon_nodup L _ i) (fun g hg => by
    obtain ⟨w, hw, rfl⟩ := (canon_mem hF g).1 hg
    rw [foldl_dv w hw]
    have hlt := foldl_lt hcl w hw s0 h0
    have hle := fsk_le (L := L) (next := next) (acc := acc) (k + 1) (w.foldl next s0)
    exact List.mem_map.2 ⟨_, mem_repsk.2 ⟨Nat.lt_of_le_of_lt hle hlt, fsk_idem _ _⟩, (stable_lang hcl hs (Nat.lt_of_le_of_lt hle hlt) hlt).1 (fsk_spec _ _).2.1⟩)
  rw [List.length_map, ← hF.1] at this
  exact this
end
end Go.Proofs.Ytkboeldafppicaa
