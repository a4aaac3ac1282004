/- From a listed machine to the plain form of its language. -/
import Derived.Test.YtkboeldafppicaaAlikeP
import Derived.Test.YtkboeldafppicaaIBox
set_option linter.unusedVariables false
namespace Go.Proofs.Ytkboeldafppicaa
open Go.RowKit

theorem mono_exists (g : Nat → Nat) (n : Nat) (hb : ∀ i, g i ≤ n) (hm : ∀ i, g i ≤ g (i + 1)) (h0 : 0 < g 0) : ∃ i, i = g i ∧ (∀ j, j < i → j < g j) ∧ i ≤ n := by
  have : ∀ d i, i + d = n + 1 → (∀ j, j < i → j < g j) → ∃ i, i = g i ∧ (∀ j, j < i → j < g j) ∧ i ≤ n := by
    intro d
    induction d with
    | zero => intro i hi hj; have := hj n (by omega); have := hb n; omega
    | succ d ih =>
      intro i hi hj
      by_cases h : i < g i
      · exact ih (i + 1) (by omega) (fun j hjj => by by_cases e : j = i; subst e; exact h; exact hj j (by omega))
      · have hle : i ≤ g i := by
          rcases Nat.eq_zero_or_pos i with e | e
          · omega
          · have h1 := hj (i - 1) (by omega)
            have h2 := hm (i - 1)
            rw [show i - 1 + 1 = i by omega] at h2
            omega
        exact ⟨i, by omega, hj, by have := hb i; omega⟩
  exact this (n + 1) 0 (by omega) (fun j hj => by omega)
theorem listTo_mono {S : Type} [DecidableEq S] (L : Nat) (next : S → Nat → S) (acc : S → Bool) (s0 : S) (i : Nat) : (listTo L next acc s0 i).1.length ≤ (listTo L next acc s0 (i + 1)).1.length := (listTo_pre L next acc s0 (i + 1) i (by omega)).length_le
section
variable {L : Nat} {rows : List (List Int)} {accs : List Bool}
/-- The language of a machine's state. -/
noncomputable def mLang (L : Nat) (rows : List (List Int)) (accs : List Bool) (s : Nat) : Lang := langOf L (mN rows) (mA accs) s
theorem canon_bound (hcl : ∀ s c, s < rows.length → c < L → mN rows s c < rows.length) (s0 : Nat) (h0 : s0 < rows.length) (i : Nat) : (canon L (mLang L rows accs s0) i).1.length ≤ rows.length := by
  have := nodup_le (canon L (mLang L rows accs s0) i).1 ((List.range rows.length).map (mLang L rows accs)) (canon_nodup _ _ _) (fun g hg => by
    obtain ⟨w, hw, rfl⟩ := listTo_reached L dv ep (mLang L rows accs s0) i g hg
    rw [show mLang L rows accs s0 = langOf L (mN rows) (mA accs) s0 from rfl, foldl_dv w hw]
    exact List.mem_map.2 ⟨_, List.mem_range.2 (foldl_lt hcl w hw s0 h0), rfl⟩)
  simpa using this
theorem fullC_exists (hcl : ∀ s c, s < rows.length → c < L → mN rows s c < rows.length) (s0 : Nat) (h0 : s0 < rows.length) : ∃ i, FullC L (mLang L rows accs s0) i ∧ i ≤ rows.length := by
  obtain ⟨i, h1, h2, h3⟩ := mono_exists (fun i => (canon L (mLang L rows accs s0) i).1.length) rows.length (canon_bound hcl s0 h0) (fun i => listTo_mono _ _ _ _ _) (by simp [canon, listTo])
  exact ⟨i, ⟨h1, h2⟩, h3⟩
/-- What the listing of kinds goes on to, and whether it accepts. -/
def n2 (rows : List (List Int)) (al : List Int) (s : Int) (c : Nat) : Int := al[mN rows s.toNat c]?.getD 0
def a2 (accs : List Bool) (s : Int) : Bool := mA accs s.toNat
/-- The first states of the kinds. -/
def Rep (L : Nat) (rows : List (List Int)) (accs : List Bool) (k : Nat) (s : Int) : Prop := ∃ j : Nat, s = j ∧ j < rows.length ∧ fsk L (mN rows) (mA accs) k j = j
theorem rep_zero (k : Nat) (h : 0 < rows.length) : Rep L rows accs k 0 := ⟨0, rfl, h, by have := fsk_le (L := L) (next := mN rows) (acc := mA accs) k 0; omega⟩
theorem rep_next (hcl : ∀ s c, s < rows.length → c < L → mN rows s c < rows.length) (k : Nat) (s : Int) (c : Nat) (h : Rep L rows accs k s) (hc : c < L) : Rep L rows accs k (n2 rows (arrL L (mN rows) (mA accs) k rows.length) s c) := by
  obtain ⟨j, rfl, hj, hf⟩ := h
  have h1 := hcl j c hj hc
  unfold n2
  rw [Int.toNat_natCast, arrL_get _ _ _ _ _ _ h1]
  exact ⟨_, rfl, Nat.lt_of_le_of_lt (fsk_le _ _) h1, fsk_idem _ _⟩
theorem rep_bound (k : Nat) : ∀ l : List Int, l.Nodup → (∀ s ∈ l, Rep L rows accs k s) → l.length ≤ rows.length := by
  intro l hn h
  refine coded_bound Int.toNat rows.length l hn (fun x hx => ?_) (fun x hx y hy e => ?_)
  · obtain ⟨j, rfl, hj, _⟩ := h x hx; simpa using hj
  · obtain ⟨j, rfl, hj, _⟩ := h x hx
    obtain ⟨j', rfl, hj', _⟩ := h y hy
    simp at e; rw [e]
/-- The listing of kinds is the plain form. -/
theorem kinds_canon (hcl : ∀ s c, s < rows.length → c < L → mN rows s c < rows.length) (h0 : 0 < rows.length) (k : Nat) (hs : (repsk L (mN rows) (mA accs) (k + 1) rows.length).length ≤ (repsk L (mN rows) (mA accs) k rows.length).length) (i : Nat) :
    (listTo L (n2 rows (arrL L (mN rows) (mA accs) (k + 1) rows.length)) (a2 accs) 0 i).1.length = (canon L (mLang L rows accs 0) i).1.length ∧ (listTo L (n2 rows (arrL L (mN rows) (mA accs) (k + 1) rows.length)) (a2 accs) 0 i).2 = (canon L (mLang L rows accs 0) i).2 := by
  have := canon_of (L := L) (next := n2 rows (arrL L (mN rows) (mA accs) (k + 1) rows.length)) (acc := a2 accs) (s0 := 0) (Rep L rows accs (k + 1)) (rep_zero _ h0) (fun s c h hc => rep_next hcl _ s c h hc) (f := fun s => mLang L rows accs s.toNat)
    (fun s c h hc => by
      obtain ⟨j, rfl, hj, hf⟩ := h
      have h1 := hcl j c hj hc
      have hle := fsk_le (L := L) (next := mN rows) (acc := mA accs) (k + 1) (mN rows j c)
      unfold n2 mLang
      rw [Int.toNat_natCast, arrL_get _ _ _ _ _ _ h1, Int.toNat_natCast, langOf_dv j c hc]
      exact (stable_lang hcl hs (Nat.lt_of_le_of_lt hle h1) h1).1 (fsk_spec _ _).2.1)
    (fun s h => by unfold mLang; rw [langOf_ep]; rfl)
    (fun s t h h' e => by
      obtain ⟨j, rfl, hj, hf⟩ := h
      obtain ⟨j', rfl, hj', hf'⟩ := h'
      have := fsk_eq.2 ((stable_lang hcl hs hj hj').2 (by simpa [mLang] using e))
      rw [hf, hf'] at this
      rw [this])
    i
  refine ⟨?_, this.2⟩
  have h2 := congrArg List.length this.1
  rw [List.length_map] at h2
  exact h2
end
theorem nodup_get {S : Type} {l : List S} (h : l.Nodup) {i j : Nat} {a : S} (h1 : l[i]? = some a) (h2 : l[j]? = some a) : i = j := by
  obtain ⟨g1, e1⟩ := List.getElem?_eq_some_iff.1 h1
  obtain ⟨g2, e2⟩ := List.getElem?_eq_some_iff.1 h2
  have hp := List.pairwise_iff_getElem.1 h
  rcases Nat.lt_trichotomy i j with g | g | g
  · exact absurd (e1.trans e2.symm) (hp i j g1 g2 g)
  · exact g
  · exact absurd (e2.trans e1.symm) (hp j i g2 g1 g)
/-- What a listing is as a machine. -/
theorem full_good {S : Type} [DecidableEq S] {L : Nat} (hL1 : 1 ≤ L) (hL : L ≤ 6) {next : S → Nat → S} {acc : S → Bool} {s0 : S} {i : Nat} (h : Full L next acc s0 i) : GoodM L (listTo L next acc s0 i).2.1 (listTo L next acc s0 i).2.2 ∧ (∀ j c, j < i → c < L → ∃ s, (listTo L next acc s0 i).1[j]? = some s ∧ (listTo L next acc s0 i).1[mN (listTo L next acc s0 i).2.1 j c]? = some (next s c)) ∧ (∀ j s, (listTo L next acc s0 i).1[j]? = some s → mA (listTo L next acc s0 i).2.2 j = acc s) := by
  obtain ⟨l1, l2⟩ := listTo_len L next acc s0 i
  have hg := listTo_get L next acc s0 i h.2
  have hi : 0 < i := by
    have := (List.getElem?_eq_some_iff.1 (listTo_first L next acc s0 i)).1
    have := h.1
    omega
  have hrow : ∀ j c, j < i → c < L → ∃ (s : S) (q : Nat), (listTo L next acc s0 i).1[j]? = some s ∧ ((listTo L next acc s0 i).2.1[j]?.getD [])[c]?.getD 0 = (q : Int) ∧ (listTo L next acc s0 i).1[q]? = some (next s c) := by
    intro j c hj hc
    obtain ⟨s, r, h1, h2, h3, h4, h5⟩ := hg j hj
    obtain ⟨q, g1, g2⟩ := h5 c hc
    exact ⟨s, q, h1, by rw [h2, Option.getD_some, g1]; rfl, g2⟩
  refine ⟨⟨hL1, hL, by omega, by omega, fun s hs => ?_, fun s c hs hc => ?_⟩, fun j c hj hc => ?_, fun j s hs => ?_⟩
  · obtain ⟨_, r, _, h2, _, h4, _⟩ := hg s (by omega)
    rw [h2]; exact h4
  · obtain ⟨t, q, h1, h2, h3⟩ := hrow s c (by omega) hc
    have := (List.getElem?_eq_some_iff.1 h3).1
    have := h.1
    unfold mN
    rw [h2]
    exact ⟨by simp; omega, by simp⟩
  · obtain ⟨s, q, h1, h2, h3⟩ := hrow j c hj hc
    exact ⟨s, h1, by unfold mN; rw [h2]; exact h3⟩
  · obtain ⟨s', r, h1, _, h3, _, _⟩ := hg j (by have := (List.getElem?_eq_some_iff.1 hs).1; have := h.1; omega)
    rw [hs] at h1
    obtain rfl := Option.some.inj h1
    unfold mA
    rw [h3]; rfl
theorem full_lang {S : Type} [DecidableEq S] {L : Nat} (hL1 : 1 ≤ L) (hL : L ≤ 6) {next : S → Nat → S} {acc : S → Bool} {s0 : S} {i : Nat} (h : Full L next acc s0 i) : mLang L (listTo L next acc s0 i).2.1 (listTo L next acc s0 i).2.2 0 = langOf L next acc s0 ∧ ∀ s, s < i → ∃ w, Wd L w ∧ w.foldl (mN (listTo L next acc s0 i).2.1) 0 = s := by
  obtain ⟨h1, h2, h3⟩ := full_good hL1 hL h
  have hrel : ∀ (j : Nat) (s : S) (c : Nat), (listTo L next acc s0 i).1[j]? = some s → c < L → (listTo L next acc s0 i).1[mN (listTo L next acc s0 i).2.1 j c]? = some (next s c) := by
    intro j s c hs hc
    have hj : j < i := by have := (List.getElem?_eq_some_iff.1 hs).1; have := h.1; omega
    obtain ⟨s', e1, e2⟩ := h2 j c hj hc
    rw [hs] at e1
    obtain rfl := Option.some.inj e1
    exact e2
  refine ⟨langOf_rel (R := fun (j : Nat) s => (listTo L next acc s0 i).1[j]? = some s) L _ _ _ _ hrel (fun j s hs => h3 j s hs) 0 s0 (listTo_first L next acc s0 i), fun s hs => ?_⟩
  have hsl : s < (listTo L next acc s0 i).1.length := by have := h.1; omega
  obtain ⟨w, hw, hf⟩ := listTo_reached L next acc s0 i _ (List.getElem_mem hsl)
  refine ⟨w, hw, ?_⟩
  have hrun : ∀ (w : List Nat) (j : Nat) (t : S), Wd L w → (listTo L next acc s0 i).1[j]? = some t → (listTo L next acc s0 i).1[w.foldl (mN (listTo L next acc s0 i).2.1) j]? = some (w.foldl next t) := by
    intro w
    induction w with
    | nil => intro j t _ ht; exact ht
    | cons c w ih => intro j t hw ht; exact ih _ _ (wd_cons.1 hw).2 (hrel j t c ht (wd_cons.1 hw).1)
  have h5 := hrun w 0 s0 hw (listTo_first L next acc s0 i)
  rw [hf] at h5
  have hnd := (listTo_ok L next acc s0 (Pd := fun _ => True) (fun _ _ _ _ => trivial) trivial i).1
  exact nodup_get hnd h5 (List.getElem?_eq_getElem hsl)
/-- The number of kinds against the number of states of the plain form. -/
theorem reps_large {L : Nat} {rows : List (List Int)} {accs : List Bool} {k i : Nat} (hreach : ∀ s, s < rows.length → ∃ w, Wd L w ∧ w.foldl (mN rows) 0 = s) (hF : FullC L (mLang L rows accs 0) i) : (repsk L (mN rows) (mA accs) k rows.length).length ≤ i := reps_canon_le hreach hF
/-- What a function that returns a plain form answers. -/
def PlainAns (w' : World) (B L : Nat) (f : Lang) (e : Ending) : Prop :=
  ∃ i, FullC L f i ∧ ((64 < i ∧ e = .returned (.tuple #[machV 0 none 0 0 none 0 0, .int .i64 4])) ∨ (i ≤ 64 ∧ ∃ Na nc Aa ac, e = .returned (.tuple #[machV L Na i nc Aa i ac, .int .i64 0]) ∧ MachFrom w' B Na (canon L f i).2.1 Aa (canon L f i).2.2))
end Go.Proofs.Ytkboeldafppicaa
