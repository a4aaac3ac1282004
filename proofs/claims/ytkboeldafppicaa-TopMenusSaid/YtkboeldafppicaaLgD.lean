/- A language's machine, or a code: one relation that answers one thing alone. -/
import Derived.Test.YtkboeldafppicaaPlD
set_option linter.unusedVariables false
namespace Go.Proofs.Ytkboeldafppicaa
open Go.RowKit

def LgD (ok L : Int) (f : Lang) (M : Int) (t : List (List Int)) (bs : List Bool) (v : Int) : Prop :=
  (ok ≠ 0 ∧ M = 0 ∧ t = [] ∧ bs = [] ∧ v = ok) ∨ (ok = 0 ∧ ∃ i, FullC L.toNat f i ∧ ((64 < i ∧ M = 0 ∧ t = [] ∧ bs = [] ∧ v = 4) ∨ (i ≤ 64 ∧ M = (L.toNat : Int) ∧ t = (canon L.toNat f i).2.1 ∧ bs = (canon L.toNat f i).2.2 ∧ v = 0)))
theorem lg_out {w' : World} {B : Nat} {ok L : Int} {f : Lang} {e : Ending} (h : (ok ≠ 0 ∧ e = .returned (.tuple #[machV 0 none 0 0 none 0 0, .int .i64 ok])) ∨ (ok = 0 ∧ PlainAns w' B L.toNat f e)) : ∃ M t bs v Na nc Aa ac, LgD ok L f M t bs v ∧ e = .returned (.tuple #[machV M Na t.length nc Aa bs.length ac, .int .i64 v]) ∧ MachFrom w' B Na t Aa bs := by
  rcases h with ⟨hv, rfl⟩ | ⟨hv, i, hF, hans⟩
  · exact ⟨0, [], [], ok, none, 0, none, 0, .inl ⟨hv, rfl, rfl, rfl, rfl⟩, rfl, machFrom_nil _ _⟩
  · rcases hans with ⟨h64, rfl⟩ | ⟨h64, Na, nc, Aa, ac, rfl, hM⟩
    · exact ⟨0, [], [], 4, none, 0, none, 0, .inr ⟨hv, i, hF, .inl ⟨h64, rfl, rfl, rfl, rfl⟩⟩, rfl, machFrom_nil _ _⟩
    · obtain ⟨l1, l2⟩ := listTo_len L.toNat dv ep f i
      exact ⟨(L.toNat : Int), _, _, 0, Na, nc, Aa, ac, .inr ⟨hv, i, hF, .inr ⟨h64, rfl, rfl, rfl, rfl⟩⟩, by unfold canon; rw [l1, l2], hM⟩
theorem LgD.unique {ok L : Int} {f : Lang} {M M' : Int} {t t' : List (List Int)} {bs bs' : List Bool} {v v' : Int} (h : LgD ok L f M t bs v) (h' : LgD ok L f M' t' bs' v') : M' = M ∧ t' = t ∧ bs' = bs ∧ v' = v := by
  rcases h with ⟨hv, rfl, rfl, rfl, rfl⟩ | ⟨hv, i, hF, hans⟩
  · rcases h' with ⟨hv', rfl, rfl, rfl, rfl⟩ | ⟨hv', _⟩
    · exact ⟨rfl, rfl, rfl, rfl⟩
    · exact absurd hv' hv
  · rcases h' with ⟨hv', _⟩ | ⟨_, j, hF', hans'⟩
    · exact absurd hv hv'
    · obtain rfl := hF.unique hF'
      rcases hans with ⟨h64, rfl, rfl, rfl, rfl⟩ | ⟨h64, rfl, rfl, rfl, rfl⟩ <;> rcases hans' with ⟨h64', rfl, rfl, rfl, rfl⟩ | ⟨h64', rfl, rfl, rfl, rfl⟩
      · exact ⟨rfl, rfl, rfl, rfl⟩
      · omega
      · omega
      · exact ⟨rfl, rfl, rfl, rfl⟩
end Go.Proofs.Ytkboeldafppicaa
