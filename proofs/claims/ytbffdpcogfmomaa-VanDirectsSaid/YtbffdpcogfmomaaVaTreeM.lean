/- Smallest trees: Prim's choice, and the bound of potentials. Plain mathematics. -/
import Derived.Test.YtbffdpcogfmomaaVaM
set_option linter.unusedVariables false
namespace Go.Proofs.Ytbffdpcogfmomaa

/-- A way between two places. -/
abbrev Ed := Int × Int
def wtE (t : Tbl) (e : Ed) : Int := tA t e.1 e.2
def wtL (t : Tbl) : List Ed → Int
  | [] => 0
  | e :: r => wtE t e + wtL t r
theorem wtL_append (t : Tbl) (a b : List Ed) : wtL t (a ++ b) = wtL t a + wtL t b := by
  induction a with
  | nil => simp [wtL]
  | cons x r ih => simp only [List.cons_append, wtL, ih]; omega
theorem wtL_perm (t : Tbl) {a b : List Ed} (h : a.Perm b) : wtL t a = wtL t b := by
  induction h with
  | nil => rfl
  | cons x _ ih => simp only [wtL, ih]
  | swap x y l => simp only [wtL]; omega
  | trans _ _ h1 h2 => exact h1.trans h2
/-- A way crosses a set. -/
def crosses (T : Int → Prop) (e : Ed) : Prop := (T e.1 ∧ ¬ T e.2) ∨ (T e.2 ∧ ¬ T e.1)
/-- The ways connect the places of R to those of S: each set of others has a way out. -/
def Conn (R S : List Int) (E : List Ed) : Prop := ∀ T : Int → Prop, (∀ x ∈ S, ¬ T x) → (∃ v ∈ R, T v) → ∃ e ∈ E, crosses T e
/-- All ends are places. -/
def EdIn (V : List Int) (E : List Ed) : Prop := ∀ e ∈ E, e.1 ∈ V ∧ e.2 ∈ V
inductive Reach (S : List Int) (E : List Ed) : Int → Int → Prop
  | refl (v : Int) : Reach S E v v
  | step {v x y : Int} (e : Ed) : Reach S E v x → e ∈ E → ((e.1 = x ∧ e.2 = y) ∨ (e.2 = x ∧ e.1 = y)) → y ∉ S → Reach S E v y
theorem Reach.out {S : List Int} {E : List Ed} {v x : Int} (h : Reach S E v x) (hv : v ∉ S) : x ∉ S := by
  cases h with
  | refl => exact hv
  | step _ _ _ _ hy => exact hy
/-- Between a reached place in T and the start outside T there is a way that crosses T and has no end in S. -/
theorem Reach.cross {S : List Int} {E : List Ed} {v x : Int} (h : Reach S E v x) (hv : v ∉ S) (T : Int → Prop) (h1 : ¬ T v) (h2 : T x) : ∃ e ∈ E, crosses T e ∧ e.1 ∉ S ∧ e.2 ∉ S := by
  induction h with
  | refl => exact absurd h2 h1
  | @step x y e hr he hxy hy ih =>
    by_cases hx : T x
    · exact ih hx
    · have hxS := hr.out hv
      refine ⟨e, he, ?_, ?_⟩
      · rcases hxy with ⟨a, b⟩ | ⟨a, b⟩
        · right; rw [a, b]; exact ⟨h2, hx⟩
        · left; rw [a, b]; exact ⟨h2, hx⟩
      · rcases hxy with ⟨a, b⟩ | ⟨a, b⟩
        · rw [a, b]; exact ⟨hxS, hy⟩
        · rw [a, b]; exact ⟨hy, hxS⟩
/-- Taking the place v of the others to S, one way that leaves S is not wanted any more. -/
theorem Conn.exchange {V S R : List Int} {E : List Ed} {v : Int} (hV : ∀ x ∈ V, x ∈ S ∨ x ∈ R) (hE : EdIn V E) (hvR : v ∈ R) (hvS : v ∉ S) (h : Conn R S E) :
    ∃ f ∈ E, ((f.1 ∈ S ∧ f.2 ∈ R) ∨ (f.2 ∈ S ∧ f.1 ∈ R)) ∧ Conn (R.erase v) (v :: S) (E.erase f) := by
  obtain ⟨f, hf, hc⟩ := h (fun x => Reach S E v x) (fun x hx hr => hr.out hvS hx) ⟨v, hvR, .refl v⟩
  have key : ∃ s r, ((f.1 = s ∧ f.2 = r) ∨ (f.2 = s ∧ f.1 = r)) ∧ Reach S E v r ∧ s ∈ S := by
    rcases hc with ⟨a, b⟩ | ⟨a, b⟩
    · refine ⟨f.2, f.1, .inr ⟨rfl, rfl⟩, a, ?_⟩
      by_cases hs : f.2 ∈ S
      · exact hs
      · exact absurd (.step f a hf (.inl ⟨rfl, rfl⟩) hs) b
    · refine ⟨f.1, f.2, .inl ⟨rfl, rfl⟩, a, ?_⟩
      by_cases hs : f.1 ∈ S
      · exact hs
      · exact absurd (.step f a hf (.inr ⟨rfl, rfl⟩) hs) b
  obtain ⟨s, r, hsr, hr, hs⟩ := key
  have hrS := hr.out hvS
  have hrR : r ∈ R := by
    have : r ∈ V := by
      rcases hsr with ⟨_, b⟩ | ⟨_, b⟩
      · exact b ▸ (hE f hf).2
      · exact b ▸ (hE f hf).1
    rcases hV r this with h | h
    · exact absurd h hrS
    · exact h
  refine ⟨f, hf, ?_, ?_⟩
  · rcases hsr with ⟨a, b⟩ | ⟨a, b⟩
    · left; rw [a, b]; exact ⟨hs, hrR⟩
    · right; rw [a, b]; exact ⟨hs, hrR⟩
  · intro T hT ⟨x, hx, hTx⟩
    have hTv : ¬ T v := hT v (by simp)
    have hTS : ∀ y ∈ S, ¬ T y := fun y hy => hT y (by simp [hy])
    obtain ⟨e, he, hce⟩ := h T hTS ⟨x, List.mem_of_mem_erase hx, hTx⟩
    by_cases hef : e = f
    · subst hef
      have hTr : T r := by
        rcases hsr with ⟨a, b⟩ | ⟨a, b⟩ <;> rcases hce with ⟨c, d⟩ | ⟨c, d⟩
        · rw [a] at c; exact absurd c (hTS s hs)
        · rw [b] at c; exact c
        · rw [b] at c; exact c
        · rw [a] at c; exact absurd c (hTS s hs)
      obtain ⟨g, hg, hcg, g1, g2⟩ := hr.cross hvS T hTv hTr
      refine ⟨g, ?_, hcg⟩
      refine (List.mem_erase_of_ne ?_).2 hg
      rintro rfl
      rcases hsr with ⟨a, _⟩ | ⟨a, _⟩
      · exact g1 (a ▸ hs)
      · exact g2 (a ▸ hs)
    · exact ⟨e, (List.mem_erase_of_ne hef).2 he, hce⟩
/-- The sum of a smallest tree of the places V (of which S0 counts as one). -/
structure Mst (t : Tbl) (V : List Int) (r : Int) (m : Int) : Prop where
  has : ∃ E, Conn V [r] E ∧ EdIn V E ∧ E.length + 1 = V.length ∧ wtL t E = m
  low : ∀ E, Conn V [r] E → EdIn V E → E.length + 1 = V.length → m ≤ wtL t E
theorem Mst.eq {t : Tbl} {V : List Int} {r m m' : Int} (h : Mst t V r m) (k : Mst t V r m') : m = m' := by
  obtain ⟨E, h1, h2, h3, h4⟩ := h.has
  obtain ⟨E', k1, k2, k3, k4⟩ := k.has
  have := h.low E' k1 k2 k3
  have := k.low E h1 h2 h3
  omega
/-- What has been connected: S are in, R are left, m is the sum so far. -/
structure Grow (t : Tbl) (V : List Int) (r : Int) (S R : List Int) (m : Int) : Prop where
  all : V.Perm (S ++ R)
  rin : r ∈ S
  has : ∃ F, Conn S [r] F ∧ EdIn V F ∧ F.length + 1 = S.length ∧ wtL t F = m
  low : ∀ E, Conn V [r] E → EdIn V E → E.length + 1 = V.length → ∃ E', Conn R S E' ∧ EdIn V E' ∧ E'.length = R.length ∧ m + wtL t E' ≤ wtL t E
theorem Grow.start {t : Tbl} {V : List Int} {r : Int} {R : List Int} (h : V.Perm (r :: R)) : Grow t V r [r] R 0 := by
  refine ⟨h, by simp, ⟨[], fun T hT ⟨v, hv, hTv⟩ => ?_, fun e he => by simp at he, rfl, rfl⟩, fun E h1 h2 h3 => ⟨E, fun T hT ⟨v, hv, hTv⟩ => ?_, h2, ?_, by omega⟩⟩
  · exact absurd hTv (hT v (by simpa using hv))
  · exact h1 T hT ⟨v, h.mem_iff.2 (by simp [hv]), hTv⟩
  · have := h.length_eq; simp at this; omega
theorem Grow.mst {t : Tbl} {V : List Int} {r m : Int} {S : List Int} (h : Grow t V r S [] m) : Mst t V r m := by
  have hp : V.Perm S := by simpa using h.all
  obtain ⟨F, h1, h2, h3, h4⟩ := h.has
  refine ⟨⟨F, fun T hT ⟨v, hv, hTv⟩ => h1 T hT ⟨v, hp.mem_iff.1 hv, hTv⟩, h2, by rw [h3, hp.length_eq], h4⟩, fun E k1 k2 k3 => ?_⟩
  obtain ⟨E', _, _, k6, k7⟩ := h.low E k1 k2 k3
  have : E' = [] := List.eq_nil_of_length_eq_zero k6
  subst this
  simpa [wtL] using k7
/-- The shortest way between S and R is taken. -/
theorem Grow.step {t : Tbl} {V : List Int} {r m : Int} {S R : List Int} {x y : Int} (hsym : ∀ a ∈ V, ∀ b ∈ V, tA t a b = tA t b a) (hnd : V.Nodup) (h : Grow t V r S R m) (hx : x ∈ S) (hy : y ∈ R) (hmin : ∀ a ∈ S, ∀ b ∈ R, tA t x y ≤ tA t a b) {S' R' : List Int} (hS' : S'.Perm (y :: S)) (hR' : R'.Perm (R.erase y)) : Grow t V r S' R' (m + tA t x y) := by
  have hSR : (S ++ R).Nodup := h.all.nodup_iff.1 hnd
  have hyS : y ∉ S := fun e => (List.nodup_append.1 hSR).2.2 y e y hy rfl
  have hVm : ∀ z, z ∈ V ↔ z ∈ S ∨ z ∈ R := fun z => by rw [h.all.mem_iff, List.mem_append]
  refine ⟨?_, hS'.mem_iff.2 (by simp [h.rin]), ?_, ?_⟩
  · refine h.all.trans ?_
    have e1 : R.Perm (y :: R.erase y) := List.perm_cons_erase hy
    refine (List.Perm.append_left S e1).trans ?_
    refine List.perm_middle.trans ?_
    exact (List.Perm.append_right _ hS'.symm).trans (List.Perm.append_left _ hR'.symm)
  · obtain ⟨F, h1, h2, h3, h4⟩ := h.has
    refine ⟨(x, y) :: F, fun T hT ⟨v, hv, hTv⟩ => ?_, fun e he => ?_, ?_, ?_⟩
    · by_cases hs : ∃ v ∈ S, T v
      · obtain ⟨e, he, hc⟩ := h1 T hT hs
        exact ⟨e, by simp [he], hc⟩
      · have hv' := hS'.mem_iff.1 hv
        rcases List.mem_cons.1 hv' with rfl | hv'
        · exact ⟨(x, v), by simp, .inr ⟨hTv, fun e => hs ⟨x, hx, e⟩⟩⟩
        · exact absurd ⟨v, hv', hTv⟩ hs
    · rcases List.mem_cons.1 he with rfl | he
      · exact ⟨(hVm _).2 (.inl hx), (hVm _).2 (.inr hy)⟩
      · exact h2 e he
    · rw [hS'.length_eq]; simp; omega
    · simp only [wtL, wtE]; omega
  · intro E k1 k2 k3
    obtain ⟨E', j1, j2, j3, j4⟩ := h.low E k1 k2 k3
    obtain ⟨f, hf, hfe, hc⟩ := Conn.exchange (fun z hz => (hVm z).1 hz) j2 hy hyS j1
    have hw : tA t x y ≤ wtE t f := by
      rcases hfe with ⟨a, b⟩ | ⟨a, b⟩
      · exact hmin _ a _ b
      · rw [wtE, hsym f.1 (j2 f hf).1 f.2 (j2 f hf).2]; exact hmin _ a _ b
    have hp := List.perm_cons_erase hf
    have hwl := wtL_perm t hp
    simp only [wtL] at hwl
    refine ⟨E'.erase f, fun T hT ⟨v, hv, hTv⟩ => hc T (fun z hz => hT z (hS'.mem_iff.2 hz)) ⟨v, hR'.mem_iff.1 hv, hTv⟩, fun e he => j2 e (List.mem_of_mem_erase he), ?_, by omega⟩
    have := hp.length_eq
    rw [List.length_cons] at this
    rw [hR'.length_eq, List.length_erase_of_mem hy]
    omega
/-- The ways of a list, one after another. -/
def pathE : List Int → List Ed
  | [] => []
  | x :: r => match r with
    | [] => []
    | y :: _ => (x, y) :: pathE r
theorem pathE_two (x y : Int) (s : List Int) : pathE (x :: y :: s) = (x, y) :: pathE (y :: s) := rfl
theorem pathE_len (o : List Int) : (pathE o).length = o.length - 1 := by
  induction o with
  | nil => rfl
  | cons x r ih =>
    cases r with
    | nil => rfl
    | cons y s => rw [pathE_two]; simp only [List.length_cons] at ih ⊢; omega
theorem pathE_in (o : List Int) : EdIn o (pathE o) := by
  induction o with
  | nil => intro e he; simp [pathE] at he
  | cons x r ih =>
    cases r with
    | nil => intro e he; simp [pathE] at he
    | cons y s =>
      intro e he
      rcases List.mem_cons.1 he with rfl | he
      · exact ⟨by simp, by simp⟩
      · have := ih e he; exact ⟨List.mem_cons_of_mem _ this.1, List.mem_cons_of_mem _ this.2⟩
theorem path_cross (T : Int → Prop) : ∀ o : List Int, ∀ a ∈ o, ∀ b ∈ o, T a → ¬ T b → ∃ e ∈ pathE o, crosses T e := by
  intro o
  induction o with
  | nil => intro a ha; simp at ha
  | cons x r ih =>
    intro a ha b hb hTa hTb
    cases r with
    | nil => simp at ha hb; subst ha; subst hb; exact absurd hTa hTb
    | cons y s =>
      by_cases hx : T x <;> by_cases hy : T y
      · have hb' : b ∈ y :: s := by
          rcases List.mem_cons.1 hb with rfl | h
          · exact absurd hx hTb
          · exact h
        obtain ⟨e, he, hc⟩ := ih y (by simp) b hb' hy hTb
        exact ⟨e, by rw [pathE_two]; exact List.mem_cons_of_mem _ he, hc⟩
      · exact ⟨(x, y), by rw [pathE_two]; exact List.mem_cons_self, .inl ⟨hx, hy⟩⟩
      · exact ⟨(x, y), by rw [pathE_two]; exact List.mem_cons_self, .inr ⟨hy, hx⟩⟩
      · have ha' : a ∈ y :: s := by
          rcases List.mem_cons.1 ha with rfl | h
          · exact absurd hTa hx
          · exact h
        obtain ⟨e, he, hc⟩ := ih a ha' y (by simp) hTa hy
        exact ⟨e, by rw [pathE_two]; exact List.mem_cons_of_mem _ he, hc⟩
theorem path_conn {V : List Int} {r : Int} {o : List Int} (h : o.Perm V) (hr : r ∈ V) : Conn V [r] (pathE o) := fun T hT ⟨v, hv, hTv⟩ =>
  path_cross T o v (h.mem_iff.2 hv) r (h.mem_iff.2 hr) hTv (hT r (by simp))
/-- A smallest tree is no longer than a path through all places. -/
theorem Mst.path {t : Tbl} {V : List Int} {r m : Int} (h : Mst t V r m) (hr : r ∈ V) {o : List Int} (ho : o.Perm V) : m ≤ wtL t (pathE o) := by
  refine h.low _ (path_conn ho hr) (fun e he => ?_) ?_
  · have := pathE_in o e he; exact ⟨ho.mem_iff.1 this.1, ho.mem_iff.1 this.2⟩
  · rw [pathE_len, ho.length_eq]
    have : 0 < V.length := List.length_pos_of_mem hr
    omega
/-- The length of a path, by places. -/
theorem path_pre (t : Tbl) (o : List Int) : ∀ k, k < o.length → wtL t (pathE (o.take (k + 1))) + tA t 0 (vAt o 0) = preL t o (k + 1) := by
  intro k
  induction k with
  | zero =>
    intro h
    cases o with
    | nil => simp at h
    | cons x r => simp [pathE, wtL, preL, lastP, vAt]
  | succ k ih =>
    intro h
    have h1 := ih (by omega)
    have key : ∀ (l : List Int) (a b : Int), wtL t (pathE (l ++ [a, b])) = wtL t (pathE (l ++ [a])) + tA t a b := by
      intro l a b
      induction l with
      | nil => simp [pathE, wtL, wtE]
      | cons x r ih2 =>
        cases r with
        | nil => simp [pathE, wtL, wtE]
        | cons y s =>
          simp only [List.cons_append] at ih2 ⊢
          rw [pathE_two, pathE_two, wtL, wtL, ih2]
          omega
    have e1 : o.take (k + 2) = o.take k ++ [vAt o k, vAt o (k + 1)] := by
      have v1 : vAt o k = o[k] := by simp [vAt, show k < o.length by omega]
      have v2 : vAt o (k + 1) = o[k + 1] := by simp [vAt, h]
      rw [show k + 2 = k + 1 + 1 from rfl, List.take_succ_eq_append_getElem h, List.take_succ_eq_append_getElem (show k < o.length by omega), List.append_assoc, v1, v2]
      rfl
    have e2 : o.take (k + 1) = o.take k ++ [vAt o k] := by
      rw [List.take_succ_eq_append_getElem (by omega)]; simp [vAt, show k < o.length by omega]
    rw [show k + 1 + 1 = k + 2 from rfl, e1, key, ← e2]
    rw [show preL t o (k + 2) = preL t o (k + 1) + tA t (lastP o (k + 1)) (vAt o (k + 1)) from rfl, lastP_succ]
    omega
theorem tourL_path {t : Tbl} {o : List Int} (h : 0 < o.length) : tourL t o = wtL t (pathE o) + tA t 0 (vAt o 0) + tA t (vAt o (o.length - 1)) 0 := by
  have := path_pre t o (o.length - 1) (by omega)
  rw [show o.length - 1 + 1 = o.length by omega, List.take_length] at this
  unfold tourL
  rw [← this, show lastP o o.length = vAt o (o.length - 1) by unfold lastP; rw [if_neg (by omega)]]
end Go.Proofs.Ytbffdpcogfmomaa
