/- Rows of items: what stores elsewhere keep; copies of sets, and where they lie. -/
import Derived.Test.YtdgleicpcjfnoaaRCopyI
set_option linter.unusedVariables false
namespace Go.Proofs.Ytdgleicpcjfnoaa
open Go.RowKit

theorem far_apart {n : Nat} {A : Option Addr} {xs : List Int} {v : Value} (h : FarV n A xs) (hv : ∀ q, v.ownBlock = some q → q < n) : ApartV A xs v := by
  rcases h with e | h
  · exact .inl e
  · exact .inr (fun p hp he => by have := h p hp; have := hv _ he; omega)
theorem FarV.mono {n m : Nat} {A : Option Addr} {xs : List Int} (h : FarV n A xs) (hm : m ≤ n) : FarV m A xs := by
  rcases h with e | h
  · exact .inl e
  · exact .inr (fun p hp => Nat.le_trans hm (h p hp))
theorem SameAbove.setCell {base : Nat} (w : World) (p : Addr) (v : Value) (hp : p.block < base) : SameAbove base w (w.setCell p v) := by
  intro b off u hb h0
  rw [World.cell?_setCell_far _ _ _ _ (by dsimp only; omega)]
  exact h0
theorem OwnSet.below {w w' : World} {base : Nat} {v : Value} {A : Option Addr} {xs : List Int} (h : OwnSet w base v A xs) (hb : Below w.heap.size w w') : OwnSet w' base v A xs := ⟨h.ints.below hb, h.apart, h.far⟩
theorem OwnSet.setCell {w : World} {base : Nat} {v : Value} {A : Option Addr} {xs : List Int} (h : OwnSet w base v A xs) (p : Addr) (u : Value) (hp : p.block < base) : OwnSet (w.setCell p u) base v A xs := ⟨h.ints.above (SameAbove.setCell w p u hp) h.far, h.apart, h.far⟩
theorem ItemR.setCell {w : World} {base : Nat} {its : List ItemL} {v : Value} (h : ItemR w base its v) (p : Addr) (u : Value) (hp : p.block < base) : ItemR (w.setCell p u) base its v := by
  obtain ⟨cl, h1, h2⟩ := h
  refine ⟨cl, own_setCell h1 p hp u, fun i hi => ?_⟩
  obtain ⟨A, c, B, d, e1, e2, e3, e4⟩ := h2 i hi
  exact ⟨A, c, B, d, e1, e2, e3.setCell p u hp, e4.setCell p u hp⟩
theorem ItemR.rows {w : World} {base : Nat} {its : List ItemL} {v : Value} (h : ItemR w base its v) {wx : World} (hb : Below w.heap.size w wx) : ∃ cl : List Value, cl.length = its.length * 2 ∧ wx.ownsRow base 76 2 v its.length cl ∧ Hid (∀ i, i < its.length → ∃ A c B d, cl[i * 2]? = some (.slice A (its[i]?.getD ([], [])).1.length c) ∧ cl[i * 2 + 1]? = some (.slice B (its[i]?.getD ([], [])).2.length d) ∧ OwnSet wx base v A (its[i]?.getD ([], [])).1 ∧ OwnSet wx base v B (its[i]?.getD ([], [])).2) := by
  obtain ⟨cl, h1, h2⟩ := h
  refine ⟨cl, h1.1, own_below h1 hb, fun i hi => ?_⟩
  obtain ⟨A, c, B, d, e1, e2, e3, e4⟩ := h2 i hi
  exact ⟨A, c, B, d, e1, e2, e3.below hb, e4.below hb⟩
theorem copyInts_far (wr : World) (A : Option Addr) (xs : List Int) (c : Nat) (W : World) (h : Ints W A xs) (hl : xs.length ≤ 1000000) (hb : Below wr.heap.size wr W) :
  Calls Try.prog 46 #[.slice A xs.length c] W fun en w5 => Below W.heap.size W w5 ∧ Below wr.heap.size wr w5 ∧ ∃ A5 c5, en = .returned (.slice A5 xs.length c5) ∧ Hid (Ints w5 A5 xs ∧ FarV wr.heap.size A5 xs) := by
  refine (copyInts_sl A xs c W h hl).mono ?_
  rintro e w5 ⟨hb5, A5, c5, rfl, ho⟩
  refine ⟨hb5, hb.trans (hb5.mono hb.size), A5, c5, rfl, ?_⟩
  obtain ⟨A6, c6, hv, hi⟩ := ho.ints (by omega) h.bd
  cases hv
  exact ⟨hi, own_far ho hb.size⟩
end Go.Proofs.Ytdgleicpcjfnoaa
