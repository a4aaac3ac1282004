/- Rows of two-cell values (items, rules) of the call's own, whose lists are slices of the call's own too. -/
import Derived.Test.YtdgleicpcjfnoaaRowsI
import Derived.Test.YtdgleicpcjfnoaaBook
set_option linter.unusedVariables false
namespace Go.Proofs.Ytdgleicpcjfnoaa
open Go.RowKit

/-- One cell of such a row: a list, or a number. -/
def CelO (w : World) (base : Nat) (x : Value) : List Int ⊕ Int → Prop
  | .inl xs => Own w base x xs
  | .inr t => x = .int .i64 t
def CsLike (w : World) (base : Nat) (cl : List Value) (cs : List (List Int ⊕ Int)) : Prop := cl.length = cs.length ∧ ∀ (j : Nat) (y : List Int ⊕ Int), cs[j]? = some y → ∃ x, cl[j]? = some x ∧ CelO w base x y
/-- Values that lie in different blocks. -/
def Diff (x y : Value) : Prop := ∀ p, x.ownBlock = some p → y.ownBlock ≠ some p
def RowO (w : World) (base : Nat) (e : TypeId) (cs : List (List Int ⊕ Int)) (n : Nat) (v : Value) : Prop :=
  ∃ cl : List Value, w.ownsRow base e 2 v n cl ∧ CsLike w base cl cs ∧ cl.Pairwise Diff
theorem Diff.int_r (x : Value) (k : IntKind) (t : Int) : Diff x (.int k t) := fun p _ h => by simp [Value.ownBlock] at h
theorem Diff.int_l (x : Value) (k : IntKind) (t : Int) : Diff (.int k t) x := fun p h => by simp [Value.ownBlock] at h
theorem CelO.below {w w' : World} {base : Nat} {x : Value} {y : List Int ⊕ Int} (h : CelO w base x y) (hb : Below w.heap.size w w') : CelO w' base x y := by
  cases y with
  | inl xs => exact own_below h hb
  | inr t => exact h
theorem CelO.lt {w : World} {base : Nat} {x : Value} {y : List Int ⊕ Int} (h : CelO w base x y) : ∀ p, x.ownBlock = some p → base ≤ p ∧ p < w.heap.size := by
  cases y with
  | inl xs => exact fun p hp => Go.World.ownsRow.lt h p hp
  | inr t => intro p hp; rw [show x = .int .i64 t from h] at hp; simp [Value.ownBlock] at hp
theorem CelO.weak {w : World} {base b' : Nat} {x : Value} {y : List Int ⊕ Int} (h : CelO w base x y) (hb : b' ≤ base) : CelO w b' x y := by
  cases y with
  | inl xs => exact own_weak h hb
  | inr t => exact h
theorem CsLike.below {w w' : World} {base : Nat} {cl : List Value} {cs : List (List Int ⊕ Int)} (h : CsLike w base cl cs) (hb : Below w.heap.size w w') : CsLike w' base cl cs :=
  ⟨h.1, fun j y hj => by obtain ⟨x, h1, h2⟩ := h.2 j y hj; exact ⟨x, h1, h2.below hb⟩⟩
theorem CsLike.nil (w : World) (base : Nat) : CsLike w base [] [] := ⟨rfl, fun j y h => by simp at h⟩
theorem CsLike.cel {w : World} {base : Nat} {cl : List Value} {cs : List (List Int ⊕ Int)} (h : CsLike w base cl cs) {x : Value} (hx : x ∈ cl) : ∃ y, CelO w base x y := by
  obtain ⟨j, hj, rfl⟩ := List.mem_iff_getElem.1 hx
  have hl := h.1
  have hj2 : j < cs.length := by omega
  obtain ⟨x', h1, h2⟩ := h.2 j cs[j] (List.getElem?_eq_getElem hj2)
  rw [List.getElem?_eq_getElem hj] at h1
  cases h1
  exact ⟨_, h2⟩
/-- Rows of one type and lists of ints lie in different blocks. -/
theorem own_two {w : World} {b1 b2 : Nat} {e t : TypeId} {s1 s2 : Nat} {u v : Value} {n m : Nat} {xs ys : List Value} (h : w.ownsRow b1 e s1 u n xs) (k : w.ownsRow b2 t s2 v m ys) (hne : e ≠ t) : Diff u v := by
  intro p hp hq
  rcases h.2 with ⟨hv, _⟩ | ⟨g, c, cur, hv, _, hh, _⟩
  · rw [hv] at hp; simp [Value.ownBlock] at hp
  · rcases k.2 with ⟨kv, _⟩ | ⟨g', c', cur', kv, _, kh, _⟩
    · rw [kv] at hq; simp [Value.ownBlock] at hq
    · rw [hv] at hp; rw [kv] at hq
      simp only [Value.ownBlock, Option.some.injEq] at hp hq
      subst hp; subst hq
      rw [hh] at kh
      simp only [Option.some.injEq, Obj.cells.injEq] at kh
      exact hne kh.2.1
theorem own_kept {w w' : World} {base : Nat} {e : TypeId} {s : Nat} {v : Value} {n : Nat} {xs : List Value} (h : w.ownsRow base e s v n xs) (hk : ∀ g, v.ownBlock = some g → w'.heap[g]? = w.heap[g]?) : w'.ownsRow base e s v n xs := by
  obtain ⟨h1, h2⟩ := h
  refine ⟨h1, ?_⟩
  rcases h2 with h2 | ⟨g, cap, cur, hv, hg, hh, r⟩
  · exact .inl h2
  · exact .inr ⟨g, cap, cur, hv, hg, by rw [hk g (by rw [hv]; rfl)]; exact hh, r⟩
theorem CelO.kept {w w' : World} {base : Nat} {x : Value} {y : List Int ⊕ Int} (h : CelO w base x y) (hk : ∀ g, x.ownBlock = some g → w'.heap[g]? = w.heap[g]?) : CelO w' base x y := by
  cases y with
  | inl xs => exact own_kept h hk
  | inr t => exact h
theorem CsLike.kept {w w' : World} {base : Nat} {cl : List Value} {cs : List (List Int ⊕ Int)} (h : CsLike w base cl cs) (hk : ∀ x ∈ cl, ∀ g, x.ownBlock = some g → w'.heap[g]? = w.heap[g]?) : CsLike w' base cl cs :=
  ⟨h.1, fun j y hj => by
    obtain ⟨x, h1, h2⟩ := h.2 j y hj
    exact ⟨x, h1, h2.kept (hk x (List.mem_of_getElem? h1))⟩⟩
/-- The cells of a row differ from the row. -/
theorem CelO.row {w : World} {base b2 : Nat} {e : TypeId} {s : Nat} {v : Value} {n : Nat} {xs : List Value} {x : Value} {y : List Int ⊕ Int} (h : CelO w base x y) (k : w.ownsRow b2 e s v n xs) (hne : 3 ≠ e) : Diff x v := by
  cases y with
  | inl l => exact own_two h k hne
  | inr t => intro p hp; rw [show x = .int .i64 t from h] at hp; simp [Value.ownBlock] at hp
theorem RowO.below {w w' : World} {base : Nat} {e : TypeId} {cs : List (List Int ⊕ Int)} {n : Nat} {v : Value} (h : RowO w base e cs n v) (hb : Below w.heap.size w w') : RowO w' base e cs n v := by
  obtain ⟨cl, h1, h2, h3⟩ := h
  exact ⟨cl, own_below h1 hb, h2.below hb, h3⟩
theorem RowO.nil (w : World) (base : Nat) (e : TypeId) : RowO w base e [] 0 (.slice none 0 0) := ⟨[], ⟨rfl, .inl ⟨rfl, rfl⟩⟩, CsLike.nil _ _, List.Pairwise.nil⟩
theorem RowO.lt {w : World} {base : Nat} {e : TypeId} {cs : List (List Int ⊕ Int)} {n : Nat} {v : Value} (h : RowO w base e cs n v) : ∀ q, v.ownBlock = some q → base ≤ q ∧ q < w.heap.size := by
  obtain ⟨cl, h1, _⟩ := h
  exact fun q hq => h1.lt q hq
/-- One value of two cells more. -/
theorem RowO.push {w wx w4 : World} {base m : Nat} {e : TypeId} {cs : List (List Int ⊕ Int)} {n : Nat} {v v' : Value} {cl : List Value} (hne : 3 ≠ e)
    (hl : CsLike w base cl cs) (hd : cl.Pairwise Diff) (hr : wx.ownsRow base e 2 v n cl) (hb : Below w.heap.size w wx) (hm : w.heap.size ≤ m) (hbm : base ≤ m)
    {x1 x2 : Value} {y1 y2 : List Int ⊕ Int} (h1 : CelO wx m x1 y1) (h2 : CelO wx m x2 y2) (h12 : Diff x1 x2)
    (ho : w4.ownsRow base e 2 v' (n + 1) (cl ++ [x1, x2])) (hg : wx.grownBy w4 v.ownBlock) : RowO w4 base e (cs ++ [y1, y2]) (n + 1) v' := by
  have hlx := hl.below hb
  have hkeep : ∀ {b : Nat} {x : Value} {y : List Int ⊕ Int}, CelO wx b x y → CelO w4 b x y := fun {b x y} hx => hx.kept (fun g hgx => hg.block g (hx.lt g hgx).2 (fun e2 => hx.row hr hne g hgx e2.symm))
  refine ⟨_, ho, ⟨by simp [hl.1], fun j y hj => ?_⟩, ?_⟩
  · by_cases h : j < cs.length
    · rw [List.getElem?_append_left h] at hj
      obtain ⟨x, e1, e2⟩ := hlx.2 j y hj
      exact ⟨x, by rw [List.getElem?_append_left (by rw [hl.1]; exact h)]; exact e1, hkeep e2⟩
    · have hl1 := hl.1
      rw [List.getElem?_append_right (by omega)] at hj ⊢
      rw [hl1]
      rcases hj2 : j - cs.length with _ | _ | k
      · rw [hj2] at hj; simp at hj; subst hj; exact ⟨x1, by simp, hkeep (h1.weak hbm)⟩
      · rw [hj2] at hj; simp at hj; subst hj; exact ⟨x2, by simp, hkeep (h2.weak hbm)⟩
      · rw [hj2] at hj; simp at hj
  · rw [List.pairwise_append]
    refine ⟨hd, ?_, fun a ha b hb2 => ?_⟩
    · rw [List.pairwise_cons]
      refine ⟨fun a ha => ?_, by simp⟩
      rw [List.mem_singleton] at ha
      subst ha; exact h12
    · obtain ⟨y, hy⟩ := hl.cel ha
      intro p hp
      have hp1 := (hy.lt p hp).2
      have hx : ∀ q, b.ownBlock = some q → m ≤ q := by
        intro q hq
        simp only [List.mem_cons, or_false, List.not_mem_nil] at hb2
        rcases hb2 with rfl | rfl
        · exact (h1.lt q hq).1
        · exact (h2.lt q hq).1
      intro hq
      have := hx p hq
      omega
end Go.Proofs.Ytdgleicpcjfnoaa
