/- Which children have a meal on a day. -/
import Derived.Test.YtkepjoociidkcaaOrN
import Derived.Test.YtkepjoociidkcaaOrKidM
set_option linter.unusedVariables false
namespace Go.Proofs.Ytkepjoociidkcaa
open Go.RowKit

/-- Numbers and an error. -/
def IntsR (w : World) (x : List Int × Int) (en : Ending) (w' : World) : Prop := Below w.heap.size w w' ∧ ∃ A c, en = .returned (.tuple #[.slice A x.1.length c, .int .i64 x.2]) ∧ Ints w' A x.1
def kidE (l : List Fct) (d m : Int) : Int := chkE l (inI d 0 999 && inI m 0 9)
def kidG (l : List Fct) (at_ d : Int) (c : Int) : Int := mealK l c d (cutL at_ l)
def childrenL (l : List Fct) (at_ d m : Int) : List Int × Int := if kidE l d m = 0 then (kidsTo (kidG l at_ d) m 100, 0) else ([], kidE l d m)
theorem intsNil (w : World) : Ints w none [] := ⟨by simp, .inl rfl, by simp⟩
theorem kidE_ok {l : List Fct} {d m : Int} (h : kidE l d m = 0) : l.length ≤ 60 ∧ (∀ f ∈ l, factB f = true) ∧ (∀ i j, i ≤ j → j < l.length → (fAt l i).a ≤ (fAt l j).a) ∧ inI d 0 999 = true ∧ inI m 0 9 = true := by
  obtain ⟨h1, h2⟩ := chkE_ok h
  obtain ⟨a, b, e⟩ := validE_ok h1
  simp at h2
  exact ⟨a, b, e, h2.1, h2.2⟩
theorem kids_bd64 (g : Int → Int) (m : Int) (k : Nat) (hk : k ≤ 1000) : ∀ x ∈ kidsTo g m k, -9223372036854775808 ≤ x ∧ x ≤ 9223372036854775807 := fun x hx => by have := kidsTo_bd g m k x hx; omega
theorem kidsTo_succ (g : Int → Int) (m : Int) (k : Nat) : kidsTo g m (k + 1) = if g (k : Int) = m then kidsTo g m k ++ [(k : Int)] else kidsTo g m k := rfl

end Go.Proofs.Ytkepjoociidkcaa
