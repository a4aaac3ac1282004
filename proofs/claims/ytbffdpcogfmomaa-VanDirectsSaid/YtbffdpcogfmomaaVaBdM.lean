/- The bound of potentials: no tour is below it. Plain mathematics. -/
import Derived.Test.YtbffdpcogfmomaaVaTreeM
set_option linter.unusedVariables false
namespace Go.Proofs.Ytbffdpcogfmomaa

def pI (p : List Int) (x : Int) : Int := vAt p x.toNat
/-- The ways with potentials. -/
def cntT (t : Tbl) (p : List Int) : Tbl := (List.range t.length).map fun (i : Nat) => (List.range (tR t i).length).map fun (j : Nat) => tA t i j + vAt p i + vAt p j
theorem cntT_len (t : Tbl) (p : List Int) : (cntT t p).length = t.length := by simp [cntT]
theorem cntT_row (t : Tbl) (p : List Int) (i : Nat) (h : i < t.length) : tR (cntT t p) i = (List.range (tR t i).length).map fun (j : Nat) => tA t i j + vAt p i + vAt p j := by
  simp [tR, cntT, List.getElem?_range h]
theorem cntT_at (t : Tbl) (p : List Int) (i j : Nat) (h : i < t.length) (hj : j < (tR t i).length) : tA (cntT t p) i j = tA t i j + vAt p i + vAt p j := by
  rw [tA_nat, cntT_row t p i h]
  simp [List.getElem?_range hj]
/-- Potentials. -/
structure Pots (p : List Int) (n : Nat) : Prop where
  len : p.length = n
  bd : ∀ x ∈ p, -1000 ≤ x ∧ x ≤ 1000
theorem Pots.at_ {p : List Int} {n : Nat} (h : Pots p n) (i : Nat) (hi : i < n) : -1000 ≤ vAt p i ∧ vAt p i ≤ 1000 := h.bd _ (vAt_mem (by rw [h.len]; exact hi))
theorem cnt_sq {t : Tbl} {p : List Int} (ht : Ways t) (hp : Pots p t.length) : Sq (cntT t p) t.length := by
  refine ⟨cntT_len t p, ht.len, fun i hi => by rw [cntT_row t p i hi]; simp [ht.rows i hi], fun i j hi hj => ?_, fun i j hi hj => ?_⟩
  · rw [cntT_at t p i j hi (by rw [ht.rows i hi]; exact hj)]
    have := ht.bd i j hi hj
    have := hp.at_ i hi
    have := hp.at_ j hj
    omega
  · rw [cntT_at t p i j hi (by rw [ht.rows i hi]; exact hj), cntT_at t p j i hj (by rw [ht.rows j hj]; exact hi), ht.sym i j hi hj]
    omega
theorem cntI {t : Tbl} {p : List Int} (ht : Ways t) (i j : Int) (hi : 0 ≤ i ∧ i < t.length) (hj : 0 ≤ j ∧ j < t.length) : tA (cntT t p) i j = tA t i j + pI p i + pI p j := by
  obtain ⟨a, rfl⟩ := Int.eq_ofNat_of_zero_le hi.1
  obtain ⟨b, rfl⟩ := Int.eq_ofNat_of_zero_le hj.1
  exact cntT_at t p a b (by omega) (by rw [ht.rows a (by omega)]; omega)
/-- The two smallest ways from the kitchen to different stops. -/
structure IsTwo (c : Tbl) (n : Nat) (two : Int) : Prop where
  has : ∃ x y : Int, (1 ≤ x ∧ x < n) ∧ (1 ≤ y ∧ y < n) ∧ x ≠ y ∧ tA c 0 x + tA c 0 y = two
  low : ∀ x y : Int, (1 ≤ x ∧ x < n) → (1 ≤ y ∧ y < n) → x ≠ y → two ≤ tA c 0 x + tA c 0 y
theorem IsTwo.eq {c : Tbl} {n : Nat} {a b : Int} (h : IsTwo c n a) (k : IsTwo c n b) : a = b := by
  obtain ⟨x, y, h1, h2, h3, h4⟩ := h.has
  obtain ⟨x', y', k1, k2, k3, k4⟩ := k.has
  have := h.low x' y' k1 k2 k3
  have := k.low x y h1 h2 h3
  omega
theorem IsTwo.of {c : Tbl} {n : Nat} {x y : Int} (hx : 1 ≤ x ∧ x < n) (hy : 1 ≤ y ∧ y < n) (hxy : x ≠ y) (h1 : ∀ z : Int, 1 ≤ z → z < n → tA c 0 x ≤ tA c 0 z) (h2 : ∀ z : Int, 1 ≤ z → z < n → z ≠ x → tA c 0 y ≤ tA c 0 z) : IsTwo c n (tA c 0 x + tA c 0 y) := by
  refine ⟨⟨x, y, hx, hy, hxy, rfl⟩, fun a b ha hb hab => ?_⟩
  by_cases e : a = x
  · subst e
    have := h2 b hb.1 hb.2 (fun e => hab e.symm)
    omega
  · have := h2 a ha.1 ha.2 e
    have := h1 b hb.1 hb.2
    omega
def BoundIs (t : Tbl) (p : List Int) (B : Int) : Prop := ∃ m two, Mst (cntT t p) (stopsL t.length) 1 m ∧ IsTwo (cntT t p) t.length two ∧ B = m + two - 2 * p.sum
theorem BoundIs.eq {t : Tbl} {p : List Int} {B B' : Int} (h : BoundIs t p B) (k : BoundIs t p B') : B = B' := by
  obtain ⟨m, two, h1, h2, h3⟩ := h
  obtain ⟨m', two', k1, k2, k3⟩ := k
  have := h1.eq k1
  have := h2.eq k2
  omega
theorem sum_bd (p : List Int) (b : Int) (h : ∀ x ∈ p, -b ≤ x ∧ x ≤ b) : -(b * p.length) ≤ p.sum ∧ p.sum ≤ b * p.length := by
  induction p with
  | nil => simp
  | cons x r ih =>
    have h1 := h x (by simp)
    have h2 := ih (fun y hy => h y (by simp [hy]))
    simp only [List.sum_cons, List.length_cons]
    have e : b * ((r.length + 1 : Nat) : Int) = b * r.length + b := by rw [Int.natCast_add, Int.mul_add]; simp
    rw [e]
    omega
theorem wtL_bd (c : Tbl) (E : List Ed) (b : Int) (h : ∀ e ∈ E, -b ≤ wtE c e ∧ wtE c e ≤ b) : -(b * E.length) ≤ wtL c E ∧ wtL c E ≤ b * E.length := by
  induction E with
  | nil => simp [wtL]
  | cons x r ih =>
    have h1 := h x (by simp)
    have h2 := ih (fun y hy => h y (by simp [hy]))
    simp only [wtL, List.length_cons]
    have e : b * ((r.length + 1 : Nat) : Int) = b * r.length + b := by rw [Int.natCast_add, Int.mul_add]; simp
    rw [e]
    omega
theorem BoundIs.bd {t : Tbl} {p : List Int} {B : Int} (ht : Ways t) (hp : Pots p t.length) (h : BoundIs t p B) : -50000 ≤ B ∧ B ≤ 50000 := by
  obtain ⟨m, two, h1, h2, h3⟩ := h
  have hs := cnt_sq ht hp
  have hl := ht.len
  obtain ⟨E, _, e2, e3, e4⟩ := h1.has
  have b1 := wtL_bd (cntT t p) E 3000 (fun e he => by
    have hi := e2 e he
    have i1 := (stopsL_mem _ _).1 hi.1
    have i2 := (stopsL_mem _ _).1 hi.2
    exact hs.bdI _ _ ⟨by omega, i1.2⟩ ⟨by omega, i2.2⟩)
  obtain ⟨x, y, hx, hy, _, hxy⟩ := h2.has
  have b2 := hs.bdI 0 x ⟨by omega, by omega⟩ ⟨by omega, hx.2⟩
  have b3 := hs.bdI 0 y ⟨by omega, by omega⟩ ⟨by omega, hy.2⟩
  have b4 := sum_bd p 1000 hp.bd
  rw [hp.len] at b4
  rw [stopsL_len] at e3
  omega
/-- The sum of the potentials of the first k stops of a tour. -/
def sP (p o : List Int) : Nat → Int
  | 0 => 0
  | k + 1 => sP p o k + pI p (vAt o k)
theorem pre_cnt {t : Tbl} {p o : List Int} (ht : Ways t) (ho : StopsOk o t.length) : ∀ k, k < o.length → preL (cntT t p) o (k + 1) = preL t o (k + 1) + pI p 0 + sP p o k + sP p o (k + 1) := by
  intro k
  induction k with
  | zero =>
    intro h
    have h1 := ho _ (vAt_mem h)
    have := cntI (p := p) ht 0 (vAt o 0) ⟨by omega, by have := ht.pos; omega⟩ ⟨by omega, h1.2⟩
    simp only [preL, sP, lastP, if_true]
    omega
  | succ k ih =>
    intro h
    have h0 := ih (by omega)
    have h1 := ho _ (vAt_mem h)
    have h2 := ho _ (vAt_mem (show k < o.length by omega))
    have := cntI (p := p) ht (vAt o k) (vAt o (k + 1)) ⟨by omega, h2.2⟩ ⟨by omega, h1.2⟩
    rw [show preL (cntT t p) o (k + 1 + 1) = preL (cntT t p) o (k + 1) + tA (cntT t p) (lastP o (k + 1)) (vAt o (k + 1)) from rfl, show preL t o (k + 1 + 1) = preL t o (k + 1) + tA t (lastP o (k + 1)) (vAt o (k + 1)) from rfl, lastP_succ, h0, this]
    simp only [sP]
    omega
theorem sP_sum (p o : List Int) : ∀ k, k ≤ o.length → sP p o k = ((o.take k).map (pI p)).sum := by
  intro k
  induction k with
  | zero => intro _; simp [sP]
  | succ k ih =>
    intro h
    have v1 : vAt o k = o[k] := by simp [vAt, show k < o.length by omega]
    rw [List.take_succ_eq_append_getElem (by omega), sP, ih (by omega), List.map_append, List.sum_append, v1]
    simp
theorem sum_perm {a b : List Int} (h : a.Perm b) : a.sum = b.sum := by
  induction h with
  | nil => rfl
  | cons x _ ih => simp [ih]
  | swap x y l => simp; omega
  | trans _ _ h1 h2 => exact h1.trans h2
theorem stops_sum (p : List Int) (n : Nat) (hn : 1 ≤ n) (hp : p.length = n) : pI p 0 + ((stopsL n).map (pI p)).sum = p.sum := by
  cases p with
  | nil => simp at hp; omega
  | cons x r =>
    have e : (stopsL n).map (pI (x :: r)) = r := by
      refine List.ext_getElem (by simp [stopsL]; simp at hp; omega) fun i h1 h2 => ?_
      simp [stopsL, pI, vAt, h2]
    rw [e]
    simp [pI, vAt]
theorem tour_cnt {t : Tbl} {p o : List Int} (ht : Ways t) (hp : Pots p t.length) (ho : IsTour o t.length) (h0 : 0 < o.length) : tourL (cntT t p) o = tourL t o + 2 * p.sum := by
  have h1 := pre_cnt (p := p) ht ho.stops (o.length - 1) (by omega)
  have hk : o.length - 1 + 1 = o.length := by omega
  rw [hk] at h1
  have e1 : lastP o o.length = vAt o (o.length - 1) := by unfold lastP; rw [if_neg (by omega)]
  have h2 := ho.stops _ (vAt_mem (o := o) (k := o.length - 1) (by omega))
  have h3 := cntI (p := p) ht (vAt o (o.length - 1)) 0 ⟨by omega, h2.2⟩ ⟨by omega, by have := ht.pos; omega⟩
  have h4 : sP p o o.length = sP p o (o.length - 1) + pI p (vAt o (o.length - 1)) := by
    conv => lhs; rw [← hk]
    rfl
  have h5 := sP_sum p o o.length (Nat.le_refl _)
  rw [List.take_length, sum_perm (ho.map (pI p))] at h5
  have h6 := stops_sum p t.length ht.pos hp.len
  unfold tourL
  rw [h1, e1, h3]
  omega
/-- No tour of all stops is below the bound. -/
theorem BoundIs.le {t : Tbl} {p o : List Int} {B : Int} (ht : Ways t) (h3 : 3 ≤ t.length) (hp : Pots p t.length) (h : BoundIs t p B) (ho : IsTour o t.length) : B ≤ tourL t o := by
  obtain ⟨m, two, h1, h2, rfl⟩ := h
  have hol := ho.len
  have e1 := tour_cnt ht hp ho (by omega)
  have e2 := tourL_path (t := cntT t p) (o := o) (by omega)
  have b1 := h1.path ((stopsL_mem _ _).2 ⟨by omega, by omega⟩) ho
  have m1 := ho.stops _ (vAt_mem (o := o) (k := 0) (by omega))
  have m2 := ho.stops _ (vAt_mem (o := o) (k := o.length - 1) (by omega))
  have hne : vAt o 0 ≠ vAt o (o.length - 1) := fun e => by
    have := vAt_inj ho.nodup (by omega) (by omega) e; omega
  have b2 := h2.low _ _ m1 m2 hne
  have e3 := (cnt_sq ht hp).symI (vAt o (o.length - 1)) 0 ⟨by omega, m2.2⟩ ⟨by omega, by omega⟩
  omega
theorem Mst.tour {t : Tbl} {o : List Int} {m : Int} (ht : Ways t) (h : Mst t ((0 : Int) :: stopsL t.length) 0 m) (ho : IsTour o t.length) : m ≤ tourL t o := by
  have h1 := h.path (by simp) (o := 0 :: o) (ho.cons 0)
  by_cases h0 : 0 < o.length
  · rw [tourL_path h0]
    have m2 := ho.stops _ (vAt_mem (o := o) (k := o.length - 1) (by omega))
    have := ht.bdI (vAt o (o.length - 1)) 0 ⟨by omega, m2.2⟩ ⟨by omega, by have := ht.pos; omega⟩
    cases o with
    | nil => simp at h0
    | cons x r =>
      rw [pathE_two, wtL] at h1
      have e : vAt (x :: r) 0 = x := rfl
      rw [e]
      simp only [wtE] at h1
      omega
  · have : o = [] := List.eq_nil_of_length_eq_zero (by omega)
    subst this
    have := ht.bdI 0 0 ⟨by omega, by have := ht.pos; omega⟩ ⟨by omega, by have := ht.pos; omega⟩
    simp [pathE, wtL] at h1
    simp only [tourL, preL, lastP, List.length_nil, if_true]
    omega
end Go.Proofs.Ytbffdpcogfmomaa
