/- What Reduce answers, as a list of rules; rows of the call's own and the box of a book. -/
import Derived.Test.YtdgleicpcjfnoaaCopyO
import Derived.Test.YtdgleicpcjfnoaaDelR
import Derived.Test.YtdgleicpcjfnoaaProofN
set_option linter.unusedVariables false
namespace Go.Proofs.Ytdgleicpcjfnoaa
open Go.RowKit

def folB (rls : List RuleL) (r : RuleL) : Bool := (closL rls (maskL r.1)).testBit r.2.toNat
def redL : Nat → List RuleL → List RuleL
  | 0, rls => rls
  | i + 1, rls => redL i (if folB (rls.eraseIdx i) (rls[i]?.getD ([], 0)) then rls.eraseIdx i else rls)
theorem set_len : ∀ (xs : List Int) (lo e : Int), xs.Pairwise (· < ·) → (∀ x ∈ xs, lo ≤ x ∧ x < e) → lo ≤ e → (xs.length : Int) ≤ e - lo
  | [], lo, e, _, _, h => by simp; omega
  | a :: t, lo, e, hp, hb, h => by
    obtain ⟨h1, h2⟩ := List.pairwise_cons.1 hp
    have ha := hb a (by simp)
    have := set_len t (a + 1) e h2 (fun x hx => ⟨by have := h1 x hx; omega, (hb x (by simp [hx])).2⟩) (by omega)
    simp only [List.length_cons]
    omega
theorem isSet_len {P : Nat} {xs : List Int} (h : isSetFrom 0 (P : Int) xs = true) : xs.length ≤ P := by
  obtain ⟨h1, h2⟩ := (isSetFrom_iff 0 (P : Int) xs).1 h
  have := set_len xs 0 P h1 h2 (by omega)
  omega
theorem rulesE_iff (P : Int) (rls : List RuleL) : rulesE P rls = 0 ↔ ∀ r ∈ rls, ruleB P r = true := by
  induction rls with
  | nil => simp [rulesE]
  | cons a t ih =>
    rw [rulesE]
    cases ha : ruleB P a with
    | false => simp [ha]
    | true => simp [ha, ih]
theorem rulesE_erase {P : Int} {rls : List RuleL} (h : rulesE P rls = 0) (i : Nat) : rulesE P (rls.eraseIdx i) = 0 :=
  (rulesE_iff P _).2 fun r hr => (rulesE_iff P rls).1 h r (List.mem_of_mem_eraseIdx hr)
theorem rules_small {p : Nat} {rls : List RuleL} (h : rulesE (p : Int) rls = 0) (hp : p ≤ 10) : ∀ i, i < rls.length → (rls[i]?.getD ([], 0)).1.length ≤ 1000 ∧ (∀ x ∈ (rls[i]?.getD ([], 0)).1, -9223372036854775808 ≤ x ∧ x ≤ 9223372036854775807) ∧ -9223372036854775808 ≤ (rls[i]?.getD ([], 0)).2 ∧ (rls[i]?.getD ([], 0)).2 ≤ 9223372036854775807 := by
  intro i hi
  obtain ⟨h1, h2, h3⟩ := rulesE_ok (p : Int) rls h i hi
  have := isSet_len h1
  exact ⟨by omega, fun x hx => by have := ((isSetFrom_iff 0 (p : Int) _).1 h1).2 x hx; omega, by omega, by omega⟩
/-- A box of another type is written. -/
theorem own_box {w : World} {base : Nat} {e t : TypeId} {s : Nat} {v : Value} {n : Nat} {xs : List Value} {g : Nat} {cs : Array Value} {fr : Nat × Nat} (h : w.ownsRow base e s v n xs) (hg : w.heap[g]? = some (.cells cs t fr)) (hne : e ≠ t) : v.ownBlock ≠ some g := by
  intro e2
  rcases h.2 with ⟨hv, _⟩ | ⟨g', cap', cur', hv, _, hh, _⟩
  · rw [hv] at e2; simp [Value.ownBlock] at e2
  · rw [hv] at e2
    simp only [Value.ownBlock, Option.some.injEq] at e2
    subst e2
    rw [hg] at hh
    simp only [Option.some.injEq, Obj.cells.injEq] at hh
    exact hne hh.2.1.symm
theorem RowO.box {w : World} {base : Nat} {e t : TypeId} {cs : List (List Int ⊕ Int)} {n : Nat} {v : Value} (h : RowO w base e cs n v) {q o : Nat} {cur : Array Value} {fr : Nat × Nat} (hq : w.heap[q]? = some (.cells cur t fr)) (hne : e ≠ t) (h3 : 3 ≠ t) (u : Value) : RowO (w.setCell ⟨q, o, none⟩ u) base e cs n v := by
  obtain ⟨cl, h1, h2, h4⟩ := h
  refine ⟨cl, own_kept h1 (fun g hg => heap_setCell_other w ⟨q, o, none⟩ g u (fun e => own_box h1 hq hne (by rw [hg, e]))), h2.kept (fun x hx g hgx => heap_setCell_other w ⟨q, o, none⟩ g u (fun e => ?_)), h4⟩
  obtain ⟨y, hy⟩ := h2.cel hx
  cases y with
  | inl l => exact own_box hy hq h3 (by rw [hgx, e])
  | inr t => rw [show x = .int .i64 t from hy] at hgx; simp [Value.ownBlock] at hgx
theorem box_set {w : World} {q o : Nat} {cur : Array Value} {t : TypeId} {fr : Nat × Nat} (u : Value) (h : w.heap[q]? = some (.cells cur t fr)) : ∃ cur' fr', (w.setCell ⟨q, o, none⟩ u).heap[q]? = some (.cells cur' t fr') := by
  have e : (w.setCell ⟨q, o, none⟩ u).heap[q]? = some (.cells (cur.setIfInBounds o u) t fr) := by
    unfold World.setCell
    dsimp only
    rw [Array.getElem?_modify, if_pos rfl, h]
    rfl
  exact ⟨_, _, e⟩
end Go.Proofs.Ytdgleicpcjfnoaa
