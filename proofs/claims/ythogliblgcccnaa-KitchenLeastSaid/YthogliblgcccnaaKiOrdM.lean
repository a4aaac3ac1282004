/- Orders of batches: all of them, the best of them. Plain mathematics. -/
import Derived.Test.YthogliblgcccnaaKiM
set_option linter.unusedVariables false
namespace Go.Proofs.Ythogliblgcccnaa

/-- The numbers of n batches. -/
def iotaZ (n : Nat) : List Int := (List.range n).map fun (i : Nat) => (i : Int)
theorem iotaZ_len (n : Nat) : (iotaZ n).length = n := by simp [iotaZ]
theorem iotaZ_succ (n : Nat) : iotaZ (n + 1) = iotaZ n ++ [(n : Int)] := by simp [iotaZ, List.range_succ]
theorem iotaZ_at (n i : Nat) (h : i < n) : (iotaZ n)[i]? = some (i : Int) := by simp [iotaZ, List.getElem?_range h]
theorem iotaZ_mem (n : Nat) (x : Int) : x ∈ iotaZ n ↔ 0 ≤ x ∧ x < n := by
  simp only [iotaZ, List.mem_map, List.mem_range]
  constructor
  · rintro ⟨a, h, rfl⟩; omega
  · intro h; exact ⟨x.toNat, by omega, by omega⟩
theorem iotaZ_nodup (n : Nat) : (iotaZ n).Nodup := by
  induction n with
  | zero => simp [iotaZ]
  | succ n ih =>
    rw [iotaZ_succ, List.nodup_append]
    refine ⟨ih, by simp, ?_⟩
    intro a ha b hb
    simp at hb
    have := (iotaZ_mem n a).1 ha
    omega
/-- An order of n batches. -/
def IsOrd (o : List Int) (n : Nat) : Prop := o.Perm (iotaZ n)
theorem IsOrd.len {o : List Int} {n : Nat} (h : IsOrd o n) : o.length = n := by rw [h.length_eq, iotaZ_len]
theorem IsOrd.mem {o : List Int} {n : Nat} (h : IsOrd o n) {x : Int} (hx : x ∈ o) : 0 ≤ x ∧ x < n := (iotaZ_mem n x).1 (h.mem_iff.1 hx)
theorem IsOrd.nodup {o : List Int} {n : Nat} (h : IsOrd o n) : o.Nodup := h.nodup_iff.2 (iotaZ_nodup n)
/-- A list without repetition of numbers below n has no more than n. -/
theorem pigeon (n : Nat) : ∀ o : List Int, o.Nodup → (∀ x ∈ o, 0 ≤ x ∧ x < n) → o.length ≤ n ∧ (o.length = n → IsOrd o n) := by
  induction n with
  | zero =>
    intro o _ h
    cases o with
    | nil => exact ⟨Nat.le_refl _, fun _ => List.Perm.refl _⟩
    | cons x t => have := h x (by simp); omega
  | succ n ih =>
    intro o hn h
    by_cases hm : (n : Int) ∈ o
    · obtain ⟨a, b, rfl⟩ := List.append_of_mem hm
      have hp : (a ++ (n : Int) :: b).Perm ((n : Int) :: (a ++ b)) := List.perm_middle
      have hn2 := hp.nodup_iff.1 hn
      rw [List.nodup_cons] at hn2
      obtain ⟨i1, i2⟩ := ih (a ++ b) hn2.2 (fun x hx => by
        have h1 := h x (hp.mem_iff.2 (by simp only [List.mem_cons]; exact .inr hx))
        have h2 : x ≠ (n : Int) := fun e => hn2.1 (e ▸ hx)
        omega)
      have hl : (a ++ (n : Int) :: b).length = (a ++ b).length + 1 := by simp; omega
      refine ⟨by omega, fun e => ?_⟩
      unfold IsOrd
      rw [iotaZ_succ]
      exact hp.trans (((i2 (by omega)).cons _).trans (List.perm_append_singleton _ _).symm)
    · obtain ⟨i1, i2⟩ := ih o hn (fun x hx => by
        have h1 := h x hx
        have h2 : x ≠ (n : Int) := fun e => hm (e ▸ hx)
        omega)
      exact ⟨by omega, fun e => by omega⟩
/-- The test of an order. -/
def ordB (o : List Int) (n : Nat) : Bool := decide (o.length = n) && (o.all (fun x => decide (0 ≤ x ∧ x < n)) && decide o.Nodup)
theorem ordB_iff (o : List Int) (n : Nat) : ordB o n = true ↔ IsOrd o n := by
  unfold ordB
  rw [Bool.and_eq_true, Bool.and_eq_true, decide_eq_true_iff, decide_eq_true_iff, List.all_eq_true]
  constructor
  · rintro ⟨h1, h2, h3⟩
    exact (pigeon n o h3 (fun x hx => of_decide_eq_true (h2 x hx))).2 h1
  · intro h
    exact ⟨h.len, fun x hx => decide_eq_true (h.mem hx), h.nodup⟩
/-- The test that goes element by element, and marks. -/
def goodTo (o : List Int) (n k : Nat) : Prop := (o.take k).Nodup ∧ ∀ x ∈ o.take k, 0 ≤ x ∧ x < n
def oAt (o : List Int) (k : Nat) : Int := o[k]?.getD 0
theorem take_o (o : List Int) (k : Nat) (h : k < o.length) : o.take (k + 1) = o.take k ++ [oAt o k] := by
  rw [List.take_succ_eq_append_getElem h]; simp [oAt, h]
theorem goodTo_zero (o : List Int) (n : Nat) : goodTo o n 0 := ⟨by simp, by simp⟩
theorem goodTo_succ (o : List Int) (n k : Nat) (h : k < o.length) : goodTo o n (k + 1) ↔ goodTo o n k ∧ (0 ≤ oAt o k ∧ oAt o k < n) ∧ oAt o k ∉ o.take k := by
  unfold goodTo
  rw [take_o o k h, List.nodup_append]
  constructor
  · rintro ⟨⟨h1, _, h3⟩, h2⟩
    refine ⟨⟨h1, fun x hx => h2 x (by simp [hx])⟩, h2 _ (by simp), fun hm => h3 _ hm _ (by simp) rfl⟩
  · rintro ⟨⟨h1, h2⟩, h3, h4⟩
    refine ⟨⟨h1, by simp, fun a ha b hb => ?_⟩, fun x hx => ?_⟩
    · simp at hb; subst hb; intro e; exact h4 (e ▸ ha)
    · rw [List.mem_append] at hx
      rcases hx with hx | hx
      · exact h2 x hx
      · simp at hx; subst hx; exact h3
theorem goodTo_end (o : List Int) (n : Nat) (h : goodTo o n o.length) : ordB o n = decide (o.length = n) := by
  unfold goodTo at h
  rw [List.take_length] at h
  unfold ordB
  rw [decide_eq_true h.1, List.all_eq_true.2 (fun x hx => decide_eq_true (h.2 x hx))]
  simp
theorem goodTo_mono (o : List Int) (n j k : Nat) (h : j ≤ k) (hg : goodTo o n k) : goodTo o n j := by
  have e : o.take j = (o.take k).take j := by rw [List.take_take, Nat.min_eq_left h]
  unfold goodTo
  rw [e]
  exact ⟨hg.1.sublist (List.take_sublist _ _), fun x hx => hg.2 x (List.mem_of_mem_take hx)⟩
theorem goodTo_bad (o : List Int) (n k : Nat) (h : k < o.length) (hb : ¬ goodTo o n (k + 1)) : ordB o n = false := by
  rw [Bool.eq_false_iff]
  intro e
  have := (ordB_iff o n).1 e
  refine hb (goodTo_mono o n (k + 1) o.length (by omega) ?_)
  unfold goodTo
  rw [List.take_length]
  exact ⟨this.nodup, fun x hx => this.mem hx⟩
/-- The document's own test: each number comes once. -/
theorem nodup_count (o : List Int) : o.Nodup ↔ ∀ x, o.count x ≤ 1 := List.nodup_iff_count
theorem count_ord (o : List Int) (n : Nat) (hl : o.length = n) : IsOrd o n ↔ ∀ v : Nat, v < n → o.count (v : Int) = 1 := by
  constructor
  · intro h v hv
    rw [h.count_eq]
    have h1 : (v : Int) ∈ iotaZ n := (iotaZ_mem n v).2 ⟨by omega, by omega⟩
    have h2 := List.nodup_iff_count.1 (iotaZ_nodup n) (v : Int)
    have h3 := List.count_pos_iff.2 h1
    omega
  · intro h
    have key : ∀ m : Nat, m ≤ n → ∃ r, o.Perm (iotaZ m ++ r) ∧ ∀ v : Nat, v < m → (v : Int) ∉ r := by
      intro m
      induction m with
      | zero => intro _; exact ⟨o, by simp [iotaZ], fun v hv => by omega⟩
      | succ m ih =>
        intro hm
        obtain ⟨r, hp, hr⟩ := ih (by omega)
        have hc := h m (by omega)
        rw [hp.count_eq, List.count_append] at hc
        have h0 : (iotaZ m).count (m : Int) = 0 := by
          rw [List.count_eq_zero]; intro hx; have := (iotaZ_mem m m).1 hx; omega
        have hin : (m : Int) ∈ r := List.count_pos_iff.1 (by omega)
        obtain ⟨a, b, rfl⟩ := List.append_of_mem hin
        refine ⟨a ++ b, ?_, fun v hv hx => ?_⟩
        · refine hp.trans ?_
          rw [iotaZ_succ, List.append_assoc]
          exact List.Perm.append_left _ List.perm_middle
        · rcases Nat.lt_or_ge v m with h1 | h1
          · exact hr v h1 (by simp only [List.mem_append, List.mem_cons] at hx ⊢; rcases hx with hx | hx; exact .inl hx; exact .inr (.inr hx))
          · have : v = m := by omega
            subst this
            have e : (a ++ (v : Int) :: b).count (v : Int) = (a ++ b).count (v : Int) + 1 := by simp [List.count_append]; omega
            have := List.count_pos_iff.2 hx
            omega
    obtain ⟨r, hp, _⟩ := key n (Nat.le_refl _)
    have := hp.length_eq
    rw [List.length_append, iotaZ_len] at this
    have hr : r = [] := List.eq_nil_of_length_eq_zero (by omega)
    subst hr
    simpa [IsOrd] using hp
/-- All orders, as the document makes them: each number is put at each place. -/
def insAt (o : List Int) (k : Int) (at_ : Nat) : List Int := o.take at_ ++ [k] ++ o.drop at_
def insTo (o : List Int) (k : Int) (m : Nat) : List (List Int) := (List.range m).map (insAt o k)
def insAll (os : List (List Int)) (k : Int) : List (List Int) := os.flatMap fun o => insTo o k (o.length + 1)
def ordersL : Nat → List (List Int)
  | 0 => [[]]
  | n + 1 => insAll (ordersL n) n
theorem insTo_succ (o : List Int) (k : Int) (m : Nat) : insTo o k (m + 1) = insTo o k m ++ [insAt o k m] := by simp [insTo, List.range_succ]
theorem insAt_perm (o : List Int) (k : Int) (m : Nat) : (insAt o k m).Perm (k :: o) := by
  unfold insAt
  rw [List.append_assoc, List.singleton_append]
  refine List.perm_middle.trans ?_
  rw [List.take_append_drop]
theorem ordersL_mem (n : Nat) : ∀ o, o ∈ ordersL n ↔ IsOrd o n := by
  induction n with
  | zero =>
    intro o
    simp only [ordersL, List.mem_singleton]
    constructor
    · rintro rfl; exact List.Perm.refl _
    · intro h; exact List.eq_nil_of_length_eq_zero h.len
  | succ n ih =>
    intro o
    simp only [ordersL, insAll, List.mem_flatMap, insTo, List.mem_map, List.mem_range]
    constructor
    · rintro ⟨p, hp, m, hm, rfl⟩
      unfold IsOrd
      rw [iotaZ_succ]
      exact (insAt_perm p n m).trans ((((ih p).1 hp).cons _).trans (List.perm_append_singleton _ _).symm)
    · intro h
      have hm : (n : Int) ∈ o := h.mem_iff.2 ((iotaZ_mem (n + 1) n).2 ⟨by omega, by omega⟩)
      obtain ⟨a, b, rfl⟩ := List.append_of_mem hm
      refine ⟨a ++ b, (ih _).2 ?_, a.length, by simp; omega, by simp [insAt]⟩
      have h1 : (a ++ (n : Int) :: b).Perm ((n : Int) :: iotaZ n) := by
        refine List.Perm.trans h ?_
        rw [iotaZ_succ]; exact List.perm_append_singleton _ _
      exact (List.perm_cons _).1 (List.perm_middle.symm.trans h1)
theorem ordersL_len (n : Nat) : ∀ o ∈ ordersL n, o.length = n := fun o h => ((ordersL_mem n o).1 h).len
/-- The batches in an order. -/
def seqO (l : List Bt) (o : List Int) : List Bt := o.map fun x => btAt l x.toNat
theorem seqO_len (l : List Bt) (o : List Int) : (seqO l o).length = o.length := by simp [seqO]
theorem seqO_at (l : List Bt) (o : List Int) (k : Nat) (h : k < o.length) : btAt (seqO l o) k = btAt l (oAt o k).toNat := by
  simp [btAt, seqO, oAt, h]
theorem btAt_mem (l : List Bt) (i : Nat) (h : i < l.length) : btAt l i ∈ l := by
  unfold btAt; rw [List.getElem?_eq_getElem h]; simp
theorem seqO_NN {l : List Bt} (h : NN l) {o : List Int} (ho : IsOrd o l.length) : NN (seqO l o) := by
  intro b hb
  simp only [seqO, List.mem_map] at hb
  obtain ⟨x, hx, rfl⟩ := hb
  have := ho.mem hx
  exact h _ (btAt_mem l _ (by omega))
theorem seqO_iota (l : List Bt) : seqO l (iotaZ l.length) = l := by
  refine List.ext_getElem? fun i => ?_
  simp only [seqO, iotaZ, List.getElem?_map]
  rcases Nat.lt_or_ge i l.length with h | h
  · rw [List.getElem?_range h]; simp [btAt, h]
  · rw [List.getElem?_eq_none (by simpa using h), List.getElem?_eq_none h]; rfl
theorem seqO_perm {l : List Bt} {o : List Int} (ho : IsOrd o l.length) : (seqO l o).Perm l := by
  have := List.Perm.map (fun x : Int => btAt l x.toNat) ho
  exact this.trans (by rw [show (iotaZ l.length).map (fun x : Int => btAt l x.toNat) = seqO l (iotaZ l.length) from rfl, seqO_iota])
/-- The time of an order. -/
def timeO (l : List Bt) (o : List Int) : Int := tm 0 0 (seqO l o)
/-- m is the smallest time of an order. -/
structure IsLeast (l : List Bt) (m : Int) : Prop where
  has : ∃ o, IsOrd o l.length ∧ timeO l o = m
  low : ∀ o, IsOrd o l.length → m ≤ timeO l o
theorem IsLeast.unique {l : List Bt} {a b : Int} (ha : IsLeast l a) (hb : IsLeast l b) : a = b := by
  obtain ⟨o, h1, h2⟩ := ha.has
  obtain ⟨p, h3, h4⟩ := hb.has
  have := ha.low p h3
  have := hb.low o h1
  omega
/-- A number behind a gap. -/
def skipZ (m : Nat) (y : Int) : Int := if y < m then y else y + 1
theorem skip_at (l1 l2 : List Bt) (x : Bt) (y : Int) (h : 0 ≤ y) : btAt (l1 ++ x :: l2) (skipZ l1.length y).toNat = btAt (l1 ++ l2) y.toNat := by
  unfold btAt skipZ
  by_cases hy : y < (l1.length : Int)
  · rw [if_pos hy, List.getElem?_append_left (by omega), List.getElem?_append_left (by omega)]
  · rw [if_neg hy, List.getElem?_append_right (by omega), List.getElem?_append_right (by omega)]
    rw [show (y + 1).toNat - l1.length = (y.toNat - l1.length) + 1 by omega, List.getElem?_cons_succ]
theorem perm_ord (s : List Bt) : ∀ l : List Bt, s.Perm l → ∃ o, IsOrd o l.length ∧ seqO l o = s := by
  induction s with
  | nil => intro l h; rw [h.symm.eq_nil]; exact ⟨[], List.Perm.refl _, rfl⟩
  | cons x s ih =>
    intro l h
    obtain ⟨l1, l2, rfl⟩ := List.append_of_mem (h.subset (by simp : x ∈ x :: s))
    have hp : s.Perm (l1 ++ l2) := (List.perm_cons x).1 (h.trans List.perm_middle)
    obtain ⟨o, h1, h2⟩ := ih _ hp
    have hl : (l1 ++ x :: l2).length = (l1 ++ l2).length + 1 := by simp; omega
    have hl2 : (l1 ++ l2).length = l1.length + l2.length := by simp
    refine ⟨(l1.length : Int) :: o.map (skipZ l1.length), ?_, ?_⟩
    · refine (pigeon _ _ ?_ ?_).2 ?_
      · rw [List.nodup_cons]
        refine ⟨fun hm => ?_, ?_⟩
        · rw [List.mem_map] at hm
          obtain ⟨y, _, hy⟩ := hm
          unfold skipZ at hy
          split at hy <;> omega
        · unfold List.Nodup
          rw [List.pairwise_map]
          refine List.Pairwise.imp ?_ h1.nodup
          intro a b hab e
          unfold skipZ at e
          split at e <;> split at e <;> omega
      · intro y hy
        rw [List.mem_cons, List.mem_map] at hy
        rcases hy with rfl | ⟨z, hz, rfl⟩
        · omega
        · have := h1.mem hz
          unfold skipZ
          split <;> omega
      · rw [List.length_cons, List.length_map, h1.len, hl]
    · show btAt (l1 ++ x :: l2) ((l1.length : Int)).toNat :: seqO (l1 ++ x :: l2) (o.map (skipZ l1.length)) = x :: s
      rw [← h2]
      congr 1
      · simp [btAt]
      · unfold seqO
        rw [List.map_map]
        refine List.map_congr_left fun y hy => ?_
        exact skip_at l1 l2 x y (h1.mem hy).1
/-- Over all ways to set the batches in a row. -/
theorem IsLeast.perm {l : List Bt} {m : Int} (h : IsLeast l m) (s : List Bt) (hs : s.Perm l) : m ≤ tm 0 0 s := by
  obtain ⟨o, h1, h2⟩ := perm_ord s l hs
  have := h.low o h1
  rw [timeO, h2] at this
  exact this
theorem IsLeast.got {l : List Bt} {m : Int} (h : IsLeast l m) : ∃ s : List Bt, s.Perm l ∧ tm 0 0 s = m := by
  obtain ⟨o, h1, h2⟩ := h.has
  exact ⟨_, seqO_perm h1, h2⟩
theorem IsLeast.of_perm {l : List Bt} {m : Int} (h1 : ∃ s : List Bt, s.Perm l ∧ tm 0 0 s = m) (h2 : ∀ s : List Bt, s.Perm l → m ≤ tm 0 0 s) : IsLeast l m := by
  refine ⟨?_, fun o ho => h2 _ (seqO_perm ho)⟩
  obtain ⟨s, hs, he⟩ := h1
  obtain ⟨o, ho, e⟩ := perm_ord s l hs
  exact ⟨o, ho, by rw [timeO, e, he]⟩
/-- A sorted order is the soonest. -/
def sortedO (l : List Bt) (o : List Int) : Bool := decide ((seqO l o).Pairwise (fun a b => befB a b = true))
theorem sorted_least {l : List Bt} {o : List Int} {m : Int} (ho : IsOrd o l.length) (hs : sortedO l o = true) (hm : IsLeast l m) : timeO l o = m := by
  obtain ⟨t, ht, he⟩ := hm.got
  have h1 := johnson (seqO l o) 0 0 t (of_decide_eq_true hs) (ht.trans (seqO_perm ho).symm)
  have h2 := hm.low o ho
  unfold timeO at *
  omega
/-- Exchanged, the smallest time stays. -/
theorem flip_flip (s : List Bt) : ((s.map flip2).map flip2) = s := by
  rw [List.map_map]
  conv => rhs; rw [← List.map_id s]
  exact List.map_congr_left fun b _ => rfl
theorem least_flip {l : List Bt} (hl : NN l) {m : Int} (h : IsLeast l m) : IsLeast (l.map flip2) m := by
  have hn : ∀ s : List Bt, s.Perm l → NN s := fun s hs b hb => hl b (hs.subset hb)
  refine IsLeast.of_perm ?_ ?_
  · obtain ⟨s, hs, he⟩ := h.got
    exact ⟨(s.map flip2).reverse, (List.reverse_perm _).trans (hs.map _), by rw [tm_rev s (hn s hs), he]⟩
  · intro s hs
    have hp : ((s.map flip2).reverse).Perm l := (List.reverse_perm _).trans (by have := hs.map flip2; rwa [flip_flip] at this)
    have h1 := h.perm _ hp
    have h2 := tm_rev _ (hn _ hp)
    rw [List.map_reverse, List.reverse_reverse, flip_flip] at h2
    omega
/-- The order from its end, in the batches exchanged. -/
theorem seqO_rev {l : List Bt} {o : List Int} (ho : ∀ x ∈ o, 0 ≤ x ∧ x < (l.length : Int)) : seqO (l.map flip2) o.reverse = ((seqO l o).map flip2).reverse := by
  unfold seqO
  rw [List.map_reverse, List.map_map]
  congr 1
  refine List.map_congr_left fun x hx => ?_
  have := ho x hx
  simp only [Function.comp]
  unfold btAt
  rw [List.getElem?_map, List.getElem?_eq_getElem (by omega)]
  rfl
theorem time_rev {l : List Bt} (hl : NN l) {o : List Int} (ho : IsOrd o l.length) : timeO (l.map flip2) o.reverse = timeO l o := by
  unfold timeO
  rw [seqO_rev (fun x hx => ho.mem hx), tm_rev _ (seqO_NN hl ho)]
theorem ord_rev (o : List Int) (n : Nat) : IsOrd o.reverse n ↔ IsOrd o n :=
  ⟨fun h => (List.reverse_perm o).symm.trans h, fun h => (List.reverse_perm o).trans h⟩
/-- A batch more. -/
theorem least_more {l : List Bt} (hl : NN l) {b : Bt} (h1 : 0 ≤ b.1) (h2 : 0 ≤ b.2) {n m : Int} (hn : IsLeast l n) (hm : IsLeast (l ++ [b]) m) : n ≤ m ∧ m ≤ n + b.1 + b.2 := by
  constructor
  · obtain ⟨s, hs, he⟩ := hm.got
    obtain ⟨s1, s2, rfl⟩ := List.append_of_mem (hs.symm.subset (by simp : b ∈ l ++ [b]))
    have hp : (s1 ++ s2).Perm l := by
      have e1 : (b :: (s1 ++ s2)).Perm (b :: l) := List.perm_middle.symm.trans (hs.trans (List.perm_append_singleton _ _))
      exact (List.perm_cons b).1 e1
    have := hn.perm _ hp
    have := tm_out s1 0 0 b s2 h1 h2
    omega
  · obtain ⟨s, hs, he⟩ := hn.got
    have := hm.perm (s ++ [b]) (hs.append_right _)
    have := tm_snoc s (fun x hx => hl x (hs.subset hx)) 0 0 b h1 h2 (Int.le_refl _)
    omega
/-- The bound. -/
def minCk (l : List Bt) : Nat → Int
  | 0 => (btAt l 0).1
  | k + 1 => min (minCk l k) (btAt l k).1
def minPk (l : List Bt) : Nat → Int
  | 0 => (btAt l 0).2
  | k + 1 => min (minPk l k) (btAt l k).2
def oneK (l : List Bt) : Nat → Int
  | 0 => 0
  | k + 1 => max (oneK l k) ((btAt l k).1 + (btAt l k).2)
def boundV (l : List Bt) : Int := if l.length = 0 then 0 else max (max (cookTo l l.length + minPk l l.length) (minCk l l.length + packSum l l.length)) (oneK l l.length)
theorem minCk_le (l : List Bt) : ∀ k, ∀ i, i < k → minCk l k ≤ (btAt l i).1 := by
  intro k
  induction k with
  | zero => intro i h; omega
  | succ k ih =>
    intro i h
    simp only [minCk]
    rcases Nat.lt_or_ge i k with h1 | h1
    · have := ih i h1; omega
    · rw [show i = k by omega]; omega
theorem minPk_le (l : List Bt) : ∀ k, ∀ i, i < k → minPk l k ≤ (btAt l i).2 := by
  intro k
  induction k with
  | zero => intro i h; omega
  | succ k ih =>
    intro i h
    simp only [minPk]
    rcases Nat.lt_or_ge i k with h1 | h1
    · have := ih i h1; omega
    · rw [show i = k by omega]; omega
theorem oneK_has (l : List Bt) : ∀ k, k ≤ l.length → oneK l k = 0 ∨ ∃ b ∈ l, oneK l k = b.1 + b.2 := by
  intro k
  induction k with
  | zero => intro _; exact .inl rfl
  | succ k ih =>
    intro h
    simp only [oneK]
    by_cases hc : oneK l k ≤ (btAt l k).1 + (btAt l k).2
    · right; exact ⟨btAt l k, btAt_mem l k (by omega), by omega⟩
    · rcases ih (by omega) with h1 | ⟨b, hb, h1⟩
      · left; omega
      · right; exact ⟨b, hb, by omega⟩
theorem mem_btAt {l : List Bt} {b : Bt} (h : b ∈ l) : ∃ i, i < l.length ∧ btAt l i = b := by
  obtain ⟨i, hi, he⟩ := List.getElem_of_mem h
  exact ⟨i, hi, by simp [btAt, hi, he]⟩
theorem bound_le {l : List Bt} (hl : NN l) (s : List Bt) (hs : s.Perm l) : boundV l ≤ tm 0 0 s := by
  have hn : NN s := fun b hb => hl b (hs.subset hb)
  unfold boundV
  split
  · rename_i h
    rw [List.eq_nil_of_length_eq_zero h] at hs
    rw [hs.eq_nil]; exact Int.le_refl _
  · rename_i h
    have hne : s ≠ [] := by rintro rfl; exact h (by rw [← hs.length_eq]; rfl)
    have h1 := tm_cooks s hn 0 0 (minPk l l.length) (fun b hb => by
      obtain ⟨i, hi, rfl⟩ := mem_btAt (hs.subset hb); exact minPk_le l _ i hi) hne
    have h2 := tm_packs s hn (minCk l l.length) (fun b hb => by
      obtain ⟨i, hi, rfl⟩ := mem_btAt (hs.subset hb); exact minCk_le l _ i hi) hne 0 0
    rw [totC_perm hs, totC_end] at h1
    rw [totP_perm hs, totP_end] at h2
    have h3 : oneK l l.length ≤ tm 0 0 s := by
      rcases oneK_has l l.length (Nat.le_refl _) with e | ⟨b, hb, e⟩
      · have h4 := tm_low s hn 0 0
        have h5 : 0 ≤ totP s := by
          clear h1 h2 h4 e hne hs hl
          induction s with
          | nil => simp [totP]
          | cons y t ih => have := ih (fun x hx => hn x (by simp [hx])); have := (hn y (by simp)).2; simp only [totP]; omega
        omega
      · have := tm_one s hn 0 0 b (hs.symm.subset hb); omega
    omega
end Go.Proofs.Ythogliblgcccnaa
