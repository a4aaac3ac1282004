/- Small pieces of the laws of chapter 4. -/
import Derived.Test.YtnjaacmcdkiilaaShL
set_option linter.unusedVariables false
namespace Go.Proofs.Ytnjaacmcdkiilaa
open Go.RowKit

/-- An operation of a drawn region is taken, its slot named. -/
theorem take_d {P : Program} {ops : Array Oper} {Q : Exit → Act → World → Prop} {md : Region.Mode} {S : World → Prop} {i : Nat} {oi : Oper} {d : Option Nat} {v : Value} {fuel : Nat} {listed : Array Bool} {a : Act} {w : World} (hi : ops[i]? = some oi) (hd : oi.dst = d)
    (hs : Region.noSelect ops = true) (hf : Region.free md ops listed i = true) (hr : (Region.ready md ops listed).contains i = true)
    (hQ : ∀ c a w, Q (.panic c) (a.put d v) w → Q (.panic c) a w) (hy : YieldsIf P ops S oi v a) (hS : S w)
    (h : wpAnyH P md ops Q S fuel (listed.setIfInBounds i true) (a.put d v) w) : wpAnyH P md ops Q S (fuel + 1) listed a w := by
  subst hd
  exact wpAnyH_take hi hs hf hr hQ hy hS h
theorem below_same (w : World) : Below w.heap.size w w := Below.refl _ _
theorem small_i64 {lo hi : Int} {l : List Int} (h : ∀ x ∈ l, lo ≤ x ∧ x ≤ hi) (h1 : -9223372036854775808 ≤ lo) (h2 : hi ≤ 9223372036854775807) : ∀ x ∈ l, -9223372036854775808 ≤ x ∧ x ≤ 9223372036854775807 := fun x hx => by have := h x hx; omega
def OneS (w0 : World) (g : Nat) (o : Nat) (v : Value) (w : World) : Prop := w.cell? ⟨g, o, none⟩ = some v ∧ Below w0.heap.size w0 w
theorem OneS.keep {w0 : World} {g o : Nat} {v : Value} {w w2 : World} (h : OneS w0 g o v w) (hb : Below w.heap.size w w2) : OneS w0 g o v w2 := ⟨by rw [hb.cell (cell_lt h.1)]; exact h.1, h.2.trans (hb.mono h.2.size)⟩
theorem OneS.drew {w0 : World} {g o : Nat} {v : Value} {w : World} (h : OneS w0 g o v w) : OneS w0 g o v w.drew := h.keep (Below.refl _ _).drew
theorem OneS.below {w0 : World} {g o : Nat} {v : Value} {w : World} (h : OneS w0 g o v w) : Below w0.heap.size w0 w := h.2
theorem same_self (a b : Option Addr) (xs : List Int) (ca cb : Nat) (w : World) (hx : Ints w a xs) (hy : Ints w b xs) :
  Calls Try.prog 23 #[.slice a xs.length ca, .slice b xs.length cb] w (BoolR w true) := by
  refine (same_any a b xs xs ca cb w hx hy).mono ?_
  rintro e w' ⟨⟨n, rfl⟩, rfl⟩
  exact ⟨below_dn (Below.refl _ _) _, by simp [sameB]⟩

end Go.Proofs.Ytnjaacmcdkiilaa
