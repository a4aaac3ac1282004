/- The memory of copyOf while it copies: its three boxes and the rows being made. -/
import Derived.Test.YtdgleicpcjfnoaaCloneR
import Derived.Test.YtdgleicpcjfnoaaClnO
set_option linter.unusedVariables false
namespace Go.Proofs.Ytdgleicpcjfnoaa
open Go.RowKit

/-- The cells of items, and of rules. -/
def csI : List ItemL → List (List Int ⊕ Int)
  | [] => []
  | it :: t => .inl it.1 :: .inl it.2 :: csI t
def csR : List RuleL → List (List Int ⊕ Int)
  | [] => []
  | r :: t => .inl r.1 :: .inr r.2 :: csR t
theorem csI_len (l : List ItemL) : (csI l).length = l.length * 2 := by induction l with | nil => rfl | cons a t ih => simp [csI, ih]; omega
theorem csR_len (l : List RuleL) : (csR l).length = l.length * 2 := by induction l with | nil => rfl | cons a t ih => simp [csR, ih]; omega
theorem csI_snoc (l : List ItemL) (it : ItemL) : csI (l ++ [it]) = csI l ++ [.inl it.1, .inl it.2] := by induction l with | nil => rfl | cons a t ih => simp [csI, ih]
theorem csR_snoc (l : List RuleL) (r : RuleL) : csR (l ++ [r]) = csR l ++ [.inl r.1, .inr r.2] := by induction l with | nil => rfl | cons a t ih => simp [csR, ih]
theorem csI_get (l : List ItemL) : ∀ (i : Nat), i < l.length → (csI l)[i * 2]? = some (.inl (l[i]?.getD ([], [])).1) ∧ (csI l)[i * 2 + 1]? = some (.inl (l[i]?.getD ([], [])).2) := by
  induction l with
  | nil => intro i hi; simp at hi
  | cons a t ih =>
    intro i hi
    cases i with
    | zero => exact ⟨rfl, rfl⟩
    | succ i =>
      have := ih i (by simpa using hi)
      rw [show (i + 1) * 2 = i * 2 + 1 + 1 by omega, show i * 2 + 1 + 1 + 1 = (i * 2 + 1) + 1 + 1 by omega]
      simp only [csI, List.getElem?_cons_succ]
      exact this
theorem csR_get (l : List RuleL) : ∀ (i : Nat), i < l.length → (csR l)[i * 2]? = some (.inl (l[i]?.getD ([], 0)).1) ∧ (csR l)[i * 2 + 1]? = some (.inr (l[i]?.getD ([], 0)).2) := by
  induction l with
  | nil => intro i hi; simp at hi
  | cons a t ih =>
    intro i hi
    cases i with
    | zero => exact ⟨rfl, rfl⟩
    | succ i =>
      have := ih i (by simpa using hi)
      rw [show (i + 1) * 2 = i * 2 + 1 + 1 by omega, show i * 2 + 1 + 1 + 1 = (i * 2 + 1) + 1 + 1 by omega]
      simp only [csR, List.getElem?_cons_succ]
      exact this
theorem csR_erase (l : List RuleL) : ∀ (i : Nat), (csR l).take (2 * i) ++ (csR l).drop (2 * i + 2) = csR (l.eraseIdx i) := by
  induction l with
  | nil => intro i; simp [csR]
  | cons a t ih =>
    intro i
    cases i with
    | zero => simp [csR]
    | succ i =>
      rw [show 2 * (i + 1) = 2 * i + 1 + 1 by omega, show 2 * i + 1 + 1 + 2 = (2 * i + 2) + 1 + 1 by omega]
      simp only [csR, List.take_succ_cons, List.drop_succ_cons, List.eraseIdx_cons_succ, List.cons_append]
      rw [ih i]
theorem RowO.setCell {w : World} {base : Nat} {e : TypeId} {cs : List (List Int ⊕ Int)} {n : Nat} {v : Value} (h : RowO w base e cs n v) (p : Addr) (u : Value) (hp : p.block < base) : RowO (w.setCell p u) base e cs n v := by
  obtain ⟨cl, h1, h2, h3⟩ := h
  refine ⟨cl, own_setCell h1 p hp u, h2.kept (fun x hx g hg => ?_), h3⟩
  obtain ⟨y, hy⟩ := h2.cel hx
  have := (hy.lt g hg).1
  exact heap_setCell_other w p g u (by omega)
theorem RowO.weak {w : World} {base b' : Nat} {e : TypeId} {cs : List (List Int ⊕ Int)} {n : Nat} {v : Value} (h : RowO w base e cs n v) (hb : b' ≤ base) : RowO w b' e cs n v := by
  obtain ⟨cl, h1, h2, h3⟩ := h
  exact ⟨cl, own_weak h1 hb, ⟨h2.1, fun j y hj => by obtain ⟨x, e1, e2⟩ := h2.2 j y hj; exact ⟨x, e1, e2.weak hb⟩⟩, h3⟩
theorem RowO.rows {w : World} {base : Nat} {e : TypeId} {cs : List (List Int ⊕ Int)} {n : Nat} {v : Value} (h : RowO w base e cs n v) {wx : World} (hb : Below w.heap.size w wx) :
    ∃ cl : List Value, wx.ownsRow base e 2 v n cl ∧ Hid (CsLike w base cl cs ∧ cl.Pairwise Diff) := by
  obtain ⟨cl, h1, h2, h3⟩ := h
  exact ⟨cl, own_below h1 hb, h2, h3⟩
/-- A row of another type grows. -/
theorem RowO.grown {wx w4 : World} {base b2 : Nat} {e e2 : TypeId} {cs : List (List Int ⊕ Int)} {n s m : Nat} {v u : Value} {xs : List Value} (h : RowO wx base e cs n v) (hr : wx.ownsRow b2 e2 s u m xs) (hne : e ≠ e2) (h3 : 3 ≠ e2) (hg : wx.grownBy w4 u.ownBlock) : RowO w4 base e cs n v := by
  obtain ⟨cl, h1, h2, h4⟩ := h
  refine ⟨cl, own_kept h1 (fun g hg' => hg.block g (h1.lt g hg').2 (fun e => own_two h1 hr hne g hg' e.symm)), h2.kept (fun x hx g hgx => ?_), h4⟩
  obtain ⟨y, hy⟩ := h2.cel hx
  exact hg.block g (hy.lt g hgx).2 (fun e => hy.row hr h3 g hgx e.symm)
/-- What such rows say of the rules and of the items. -/
theorem RowO.rules {w : World} {base : Nat} {e : TypeId} {rls : List RuleL} {A : Option Addr} {n c : Nat} (h : RowO w base e (csR rls) n (.slice A n c)) (hn : n = rls.length) (hl : rls.length ≤ 1000)
    (hb : ∀ i, i < rls.length → (rls[i]?.getD ([], 0)).1.length ≤ 1000 ∧ (∀ x ∈ (rls[i]?.getD ([], 0)).1, -9223372036854775808 ≤ x ∧ x ≤ 9223372036854775807) ∧ -9223372036854775808 ≤ (rls[i]?.getD ([], 0)).2 ∧ (rls[i]?.getD ([], 0)).2 ≤ 9223372036854775807) : RulesAt w A rls := by
  subst hn
  obtain ⟨cl, h1, h2, h3⟩ := h
  refine ⟨by omega, ?_⟩
  rcases h1.2 with ⟨hv, hn⟩ | ⟨g, c', cur, hv, hg, _⟩
  · exact .inl (List.eq_nil_of_length_eq_zero hn)
  · simp only [Value.slice.injEq, true_and] at hv
    obtain ⟨rfl, rfl⟩ := hv
    refine .inr ⟨g, 0, rfl, fun i hi => ?_⟩
    obtain ⟨g1, g2⟩ := csR_get rls i hi
    obtain ⟨x1, e1, o1⟩ := h2.2 _ _ g1
    obtain ⟨x2, e2, o2⟩ := h2.2 _ _ g2
    have ho : Own w base x1 (rls[i]?.getD ([], 0)).1 := o1
    obtain ⟨b1, b2, b3⟩ := hb i hi
    obtain ⟨A', c2, rfl, hi2⟩ := ho.ints (by omega) b2
    cases (show x2 = .int .i64 _ from o2)
    exact ⟨A', c2, by rw [Nat.zero_add]; exact row_cells h1 _ _ e1, by rw [Nat.zero_add]; exact row_cells h1 _ _ e2, hi2, b3⟩
theorem RowO.items {w : World} {base : Nat} {e : TypeId} {its : List ItemL} {A : Option Addr} {n c : Nat} (h : RowO w base e (csI its) n (.slice A n c)) (hn : n = its.length) (hl : its.length ≤ 1000)
    (hb : ∀ i, i < its.length → ((its[i]?.getD ([], [])).1.length ≤ 1000 ∧ ∀ x ∈ (its[i]?.getD ([], [])).1, -9223372036854775808 ≤ x ∧ x ≤ 9223372036854775807) ∧ ((its[i]?.getD ([], [])).2.length ≤ 1000 ∧ ∀ x ∈ (its[i]?.getD ([], [])).2, -9223372036854775808 ≤ x ∧ x ≤ 9223372036854775807)) : ItemsAt w A its := by
  subst hn
  obtain ⟨cl, h1, h2, h3⟩ := h
  refine ⟨by omega, ?_⟩
  rcases h1.2 with ⟨hv, hn⟩ | ⟨g, c', cur, hv, hg, _⟩
  · exact .inl (List.eq_nil_of_length_eq_zero hn)
  · simp only [Value.slice.injEq, true_and] at hv
    obtain ⟨rfl, rfl⟩ := hv
    refine .inr ⟨g, 0, rfl, fun i hi => ?_⟩
    obtain ⟨g1, g2⟩ := csI_get its i hi
    obtain ⟨x1, e1, o1⟩ := h2.2 _ _ g1
    obtain ⟨x2, e2, o2⟩ := h2.2 _ _ g2
    have ho : Own w base x1 (its[i]?.getD ([], [])).1 := o1
    have ho2 : Own w base x2 (its[i]?.getD ([], [])).2 := o2
    obtain ⟨⟨b1, b2⟩, b3, b4⟩ := hb i hi
    obtain ⟨A', c2, rfl, hi2⟩ := ho.ints (by omega) b2
    obtain ⟨B', d2, rfl, hj2⟩ := ho2.ints (by omega) b4
    exact ⟨A', c2, B', d2, by rw [Nat.zero_add]; exact row_cells h1 _ _ e1, by rw [Nat.zero_add]; exact row_cells h1 _ _ e2, hi2, hj2⟩
/-- The boxes: b at the block of the call's start, the answer behind it, c behind that. -/
structure CpB (w0 w : World) (P : Int) (i r : Value) (v1 v2 : Value) : Prop where
  b1 : w.cell? ⟨w0.heap.size, 1, none⟩ = some i
  b2 : w.cell? ⟨w0.heap.size, 2, none⟩ = some r
  r0 : w.cell? ⟨w0.heap.size + 1, 0, none⟩ = some (.int .i64 0)
  r1 : w.cell? ⟨w0.heap.size + 1, 1, none⟩ = some (.slice none 0 0)
  r2 : w.cell? ⟨w0.heap.size + 1, 2, none⟩ = some (.slice none 0 0)
  rf : ∀ j, j < 3 → w.frozen? ⟨w0.heap.size + 1, j, none⟩ = false
  c0 : w.cell? ⟨w0.heap.size + 2, 0, none⟩ = some (.int .i64 P)
  c1 : w.cell? ⟨w0.heap.size + 2, 1, none⟩ = some v1
  c2 : w.cell? ⟨w0.heap.size + 2, 2, none⟩ = some v2
  cf : ∀ j, j < 3 → w.frozen? ⟨w0.heap.size + 2, j, none⟩ = false
  bel : Below w0.heap.size w0 w
theorem CpB.lt {w0 w : World} {P : Int} {i r v1 v2 : Value} (h : CpB w0 w P i r v1 v2) : w0.heap.size + 2 < w.heap.size := cell_lt h.c0
theorem CpB.keep {w0 w w' : World} {P : Int} {i r v1 v2 : Value} (h : CpB w0 w P i r v1 v2) (hb : Below (w0.heap.size + 3) w w') : CpB w0 w' P i r v1 v2 := by
  have hc : ∀ {q o : Nat} {u : Value}, q < w0.heap.size + 3 → w.cell? ⟨q, o, none⟩ = some u → w'.cell? ⟨q, o, none⟩ = some u := fun hq hu => (hb.cell (p := ⟨_, _, none⟩) hq).trans hu
  exact ⟨hc (by omega) h.b1, hc (by omega) h.b2, hc (by omega) h.r0, hc (by omega) h.r1, hc (by omega) h.r2, fun j hj => (hb.frozen (p := ⟨_, _, none⟩) (by show w0.heap.size + 1 < _; omega)).trans (h.rf j hj), hc (by omega) h.c0, hc (by omega) h.c1, hc (by omega) h.c2, fun j hj => (hb.frozen (p := ⟨_, _, none⟩) (by show w0.heap.size + 2 < _; omega)).trans (h.cf j hj), h.bel.trans (hb.mono (by omega))⟩
theorem CpB.below {w0 w w' : World} {P : Int} {i r v1 v2 : Value} (h : CpB w0 w P i r v1 v2) (hb : Below w.heap.size w w') : CpB w0 w' P i r v1 v2 := h.keep (hb.mono h.lt)
theorem CpB.put1 {w0 w : World} {P : Int} {i r v1 v2 : Value} (h : CpB w0 w P i r v1 v2) (u : Value) : CpB w0 (w.setCell ⟨w0.heap.size + 2, 1, none⟩ u) P i r u v2 := by
  obtain ⟨b1, b2, r0, r1, r2, rf, c0, c1, c2, cf, bel⟩ := h
  exact ⟨by go_simp, by go_simp, by go_simp, by go_simp, by go_simp, fun j hj => by have := rf j hj; go_simp, by go_simp, by go_simp, by go_simp, fun j hj => by have := cf j hj; go_simp, bel.setCell (by show w0.heap.size ≤ w0.heap.size + 2; omega) _⟩
theorem CpB.put2 {w0 w : World} {P : Int} {i r v1 v2 : Value} (h : CpB w0 w P i r v1 v2) (u : Value) : CpB w0 (w.setCell ⟨w0.heap.size + 2, 2, none⟩ u) P i r v1 u := by
  obtain ⟨b1, b2, r0, r1, r2, rf, c0, c1, c2, cf, bel⟩ := h
  exact ⟨by go_simp, by go_simp, by go_simp, by go_simp, by go_simp, fun j hj => by have := rf j hj; go_simp, by go_simp, by go_simp, by go_simp, fun j hj => by have := cf j hj; go_simp, bel.setCell (by show w0.heap.size ≤ w0.heap.size + 2; omega) _⟩
end Go.Proofs.Ytdgleicpcjfnoaa
