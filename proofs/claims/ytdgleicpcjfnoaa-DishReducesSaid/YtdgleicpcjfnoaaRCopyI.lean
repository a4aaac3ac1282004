/- Rows of items that a call makes: what an append keeps. -/
import Derived.Test.YtdgleicpcjfnoaaRCopyR
set_option linter.unusedVariables false
namespace Go.Proofs.Ytdgleicpcjfnoaa
open Go.RowKit

/-- A set that a row owns: it reads, lies in another block than the row, and at or above the base. -/
structure OwnSet (w : World) (base : Nat) (v : Value) (A : Option Addr) (xs : List Int) : Prop where
  ints : Ints w A xs
  apart : ApartV A xs v
  far : FarV base A xs
/-- A row of items of the call's own. -/
def ItemR (w : World) (base : Nat) (its : List ItemL) (v : Value) : Prop :=
  ∃ cl : List Value, w.ownsRow base 76 2 v its.length cl ∧ ∀ i, i < its.length → ∃ A c B d, cl[i * 2]? = some (.slice A (its[i]?.getD ([], [])).1.length c) ∧ cl[i * 2 + 1]? = some (.slice B (its[i]?.getD ([], [])).2.length d) ∧ OwnSet w base v A (its[i]?.getD ([], [])).1 ∧ OwnSet w base v B (its[i]?.getD ([], [])).2
theorem ItemR.nil (w : World) (base : Nat) : ItemR w base [] (.slice none 0 0) := ⟨[], ⟨rfl, .inl ⟨rfl, rfl⟩⟩, fun i hi => by simp at hi⟩
theorem ItemR.items {w : World} {base : Nat} {its : List ItemL} {v : Value} (h : ItemR w base its v) (hl : its.length ≤ 140737488355328) :
    ∃ a c, v = .slice a its.length c ∧ ∀ w', SameAbove base w w' → ItemsAt w' a its := by
  obtain ⟨cl, ho, hc⟩ := h
  rcases ho.2 with ⟨hv, hn⟩ | ⟨g, c, cur, hv, hg, _⟩
  · exact ⟨none, 0, by rw [hv, hn], fun _ _ => ⟨hl, .inl (List.eq_nil_of_length_eq_zero hn)⟩⟩
  · subst hv
    refine ⟨_, c, rfl, fun w' hs => ⟨hl, .inr ⟨g, 0, rfl, fun i hi => ?_⟩⟩⟩
    obtain ⟨A, c1, B, d, h1, h2, h3, h4⟩ := hc i hi
    exact ⟨A, c1, B, d, by rw [Nat.zero_add]; exact hs _ _ _ hg (row_cells ho _ _ h1), by rw [Nat.zero_add]; exact hs _ _ _ hg (row_cells ho _ _ h2), h3.ints.above hs h3.far, h4.ints.above hs h4.far⟩
/-- What an append leaves of a set that the row owns. -/
theorem OwnSet.pushed {wx w4 : World} {base : Nat} {v v' : Value} {A : Option Addr} {xs : List Int} (h : OwnSet wx base v A xs) (hg : wx.grownBy w4 v.ownBlock) (hv : v'.ownBlock = v.ownBlock ∨ v'.ownBlock = some wx.heap.size) : OwnSet w4 base v' A xs := by
  refine ⟨h.ints.grown hg h.apart, ?_, h.far⟩
  rcases h.ints.at_ with e | ⟨b, off, rfl, hcb⟩
  · exact .inl e
  · rcases h.apart with e | hB2
    · exact .inl e
    · by_cases hy : xs = []
      · exact .inl hy
      · refine .inr (fun p hp => ?_)
        have hp2 := Option.some.inj hp
        rcases hv with e | e
        · rw [e]; exact hB2 p hp
        · rw [e]
          have hlt := cell_lt (hcb 0 (List.length_pos_iff.2 hy))
          intro he
          have := Option.some.inj he
          rw [← hp2] at this
          simp only at this hlt
          omega
/-- One item more. -/
theorem ItemR.push {wx w4 : World} {base : Nat} {its : List ItemL} {v v' : Value} {cl : List Value} (hcl : cl.length = its.length * 2)
    (hc : ∀ i, i < its.length → ∃ A c B d, cl[i * 2]? = some (.slice A (its[i]?.getD ([], [])).1.length c) ∧ cl[i * 2 + 1]? = some (.slice B (its[i]?.getD ([], [])).2.length d) ∧ OwnSet wx base v A (its[i]?.getD ([], [])).1 ∧ OwnSet wx base v B (its[i]?.getD ([], [])).2)
    {A B : Option Addr} {c d : Nat} {xs ys : List Int} (hA : OwnSet wx base v A xs) (hB : OwnSet wx base v B ys)
    (ho : w4.ownsRow base 76 2 v' (its.length + 1) (cl ++ [.slice A xs.length c, .slice B ys.length d])) (hg : wx.grownBy w4 v.ownBlock) (hv : v'.ownBlock = v.ownBlock ∨ v'.ownBlock = some wx.heap.size) :
    ItemR w4 base (its ++ [(xs, ys)]) v' := by
  refine ⟨_, by rw [List.length_append]; exact ho, fun i hi => ?_⟩
  rw [List.length_append] at hi
  simp only [List.length_cons, List.length_nil, Nat.zero_add] at hi
  by_cases hlt : i < its.length
  · obtain ⟨A1, c1, B1, d1, e1, e2, e3, e4⟩ := hc i hlt
    rw [List.getElem?_append_left hlt]
    exact ⟨A1, c1, B1, d1, by rw [List.getElem?_append_left (by omega)]; exact e1, by rw [List.getElem?_append_left (by omega)]; exact e2, e3.pushed hg hv, e4.pushed hg hv⟩
  · obtain rfl : i = its.length := by omega
    refine ⟨A, c, B, d, ?_, ?_, ?_, ?_⟩
    · rw [List.getElem?_append_right (by omega), hcl, Nat.sub_self]; simp
    · rw [List.getElem?_append_right (by omega), hcl, show its.length * 2 + 1 - its.length * 2 = 1 by omega]; simp
    · simp only [List.getElem?_append_right (Nat.le_refl _), Nat.sub_self, List.getElem?_cons_zero, Option.getD_some]; exact hA.pushed hg hv
    · simp only [List.getElem?_append_right (Nat.le_refl _), Nat.sub_self, List.getElem?_cons_zero, Option.getD_some]; exact hB.pushed hg hv
end Go.Proofs.Ytdgleicpcjfnoaa
