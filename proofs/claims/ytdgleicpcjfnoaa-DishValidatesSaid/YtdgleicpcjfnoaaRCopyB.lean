/- Rows of rules that a call makes: what an append keeps. -/
import Derived.Test.YtdgleicpcjfnoaaRSameB
import Derived.Test.YtdgleicpcjfnoaaCopyInts
import Derived.Deep.AppendLies
set_option linter.unusedVariables false
namespace Go.Proofs.Ytdgleicpcjfnoaa
open Go.RowKit

/-- The slice A, where it holds anything, lies in another block than the row v. -/
def ApartV (A : Option Addr) (xs : List Int) (v : Value) : Prop := xs = [] ∨ ∀ p, A = some p → v.ownBlock ≠ some p.block
theorem Ints.grown {w w' : World} {A : Option Addr} {xs : List Int} {v : Value} (h : Ints w A xs) (hg : w.grownBy w' v.ownBlock) (ha : ApartV A xs v) : Ints w' A xs := by
  refine ⟨h.len, ?_, h.bd⟩
  rcases h.at_ with e | ⟨b, off, rfl, hc⟩
  · exact .inl e
  · rcases ha with e | ha
    · exact .inl e
    · refine .inr ⟨b, off, rfl, fun i hi => ?_⟩
      have hlt := cell_lt (hc i hi)
      rw [World.cell?_of_block (w := w) (hg.block b hlt (fun e => ha _ rfl e.symm))]
      exact hc i hi
/-- The slice A, where it holds anything, lies at the block base or above it. -/
def FarV (base : Nat) (A : Option Addr) (xs : List Int) : Prop := xs = [] ∨ ∀ p, A = some p → base ≤ p.block
/-- The cells from the block base on are kept. -/
def SameAbove (base : Nat) (w w' : World) : Prop := ∀ b off v, base ≤ b → w.cell? ⟨b, off, none⟩ = some v → w'.cell? ⟨b, off, none⟩ = some v
theorem SameAbove.refl (base : Nat) (w : World) : SameAbove base w w := fun _ _ _ _ h => h
theorem SameAbove.trans {base : Nat} {w w1 w2 : World} (h : SameAbove base w w1) (h2 : SameAbove base w1 w2) : SameAbove base w w2 := fun b off v hb h0 => h2 b off v hb (h b off v hb h0)
/-- All cells but those of the block g are kept. -/
def KeepBut (g : Nat) (w w' : World) : Prop := ∀ b off v, b ≠ g → w.cell? ⟨b, off, none⟩ = some v → w'.cell? ⟨b, off, none⟩ = some v
theorem KeepBut.refl (g : Nat) (w : World) : KeepBut g w w := fun _ _ _ _ h => h
theorem KeepBut.trans {g : Nat} {w w1 w2 : World} (h : KeepBut g w w1) (h2 : KeepBut g w1 w2) : KeepBut g w w2 := fun b off v hb h0 => h2 b off v hb (h b off v hb h0)
theorem KeepBut.setCell (g : Nat) (w : World) (o : Nat) (v : Value) : KeepBut g w (w.setCell ⟨g, o, none⟩ v) := by
  intro b off u hb h0
  rw [World.cell?_setCell_far _ _ _ _ (by exact fun e => hb e.symm)]
  exact h0
theorem Ints.above {base : Nat} {w w' : World} {A : Option Addr} {xs : List Int} (h : Ints w A xs) (hs : SameAbove base w w') (hf : FarV base A xs) : Ints w' A xs := by
  refine ⟨h.len, ?_, h.bd⟩
  rcases h.at_ with e | ⟨b, off, rfl, hc⟩
  · exact .inl e
  · rcases hf with e | hf
    · exact .inl e
    · refine .inr ⟨b, off, rfl, fun i hi => ?_⟩
      exact hs _ _ _ (hf _ rfl) (hc i hi)
/-- A row of rules of the call's own. -/
def RowR (w : World) (base : Nat) (rls : List RuleL) (v : Value) : Prop :=
  ∃ cl : List Value, w.ownsRow base 55 2 v rls.length cl ∧ ∀ i, i < rls.length → ∃ A c, cl[i * 2]? = some (.slice A (rls[i]?.getD ([], 0)).1.length c) ∧ cl[i * 2 + 1]? = some (.int .i64 (rls[i]?.getD ([], 0)).2) ∧ Ints w A (rls[i]?.getD ([], 0)).1 ∧ ApartV A (rls[i]?.getD ([], 0)).1 v ∧ FarV base A (rls[i]?.getD ([], 0)).1
theorem RowR.nil (w : World) (base : Nat) : RowR w base [] (.slice none 0 0) := ⟨[], ⟨rfl, .inl ⟨rfl, rfl⟩⟩, fun i hi => by simp at hi⟩
theorem row_cells {w : World} {base : Nat} {e : TypeId} {s : Nat} {g n c : Nat} {cl : List Value} (h : w.ownsRow base e s (.slice (some ⟨g, 0, none⟩) n c) n cl) (j : Nat) (u : Value) (hj : cl[j]? = some u) : w.cell? ⟨g, j, none⟩ = some u := by
  rcases h.2 with ⟨h', _⟩ | ⟨g', c', cur, h', hg, hh, hnc, hm, hs, ht⟩
  · simp at h'
  · simp only [Value.slice.injEq, Option.some.injEq, Addr.mk.injEq, and_true, true_and] at h'
    obtain ⟨rfl, rfl⟩ := h'
    unfold World.cell?
    rw [hh]
    simp only [Option.isSome_none, Bool.false_eq_true, if_false]
    rw [← ht] at hj
    rw [← Array.getElem?_toList]
    rw [List.getElem?_take] at hj
    split at hj
    · exact hj
    · cases hj
theorem RowR.rules {w : World} {base : Nat} {rls : List RuleL} {v : Value} (h : RowR w base rls v) (hl : rls.length ≤ 140737488355328) (hb : ∀ i, i < rls.length → -9223372036854775808 ≤ (rls[i]?.getD ([], 0)).2 ∧ (rls[i]?.getD ([], 0)).2 ≤ 9223372036854775807) :
    ∃ a c, v = .slice a rls.length c ∧ ∀ w', SameAbove base w w' → RulesAt w' a rls := by
  obtain ⟨cl, ho, hc⟩ := h
  rcases ho.2 with ⟨hv, hn⟩ | ⟨g, c, cur, hv, hg, _⟩
  · exact ⟨none, 0, by rw [hv, hn], fun _ _ => ⟨hl, .inl (List.eq_nil_of_length_eq_zero hn)⟩⟩
  · subst hv
    refine ⟨_, c, rfl, fun w' hs => ⟨hl, .inr ⟨g, 0, rfl, fun i hi => ?_⟩⟩⟩
    obtain ⟨A, d, h1, h2, h3, _, h5⟩ := hc i hi
    exact ⟨A, d, by rw [Nat.zero_add]; exact hs _ _ _ hg (row_cells ho _ _ h1), by rw [Nat.zero_add]; exact hs _ _ _ hg (row_cells ho _ _ h2), h3.above hs h5, hb i hi⟩
/-- One rule more. -/
theorem RowR.push {w wx w4 : World} {base : Nat} {rls : List RuleL} {v v' : Value} {cl : List Value} (hcl : cl.length = rls.length * 2)
    (hc : ∀ i, i < rls.length → ∃ A c, cl[i * 2]? = some (.slice A (rls[i]?.getD ([], 0)).1.length c) ∧ cl[i * 2 + 1]? = some (.int .i64 (rls[i]?.getD ([], 0)).2) ∧ Ints wx A (rls[i]?.getD ([], 0)).1 ∧ ApartV A (rls[i]?.getD ([], 0)).1 v ∧ FarV base A (rls[i]?.getD ([], 0)).1)
    {A : Option Addr} {c : Nat} {xs : List Int} {t : Int} (hA : Ints wx A xs) (ha : ApartV A xs v) (hf : FarV base A xs)
    (ho : w4.ownsRow base 55 2 v' (rls.length + 1) (cl ++ [.slice A xs.length c, .int .i64 t])) (hg : wx.grownBy w4 v.ownBlock) (hv : v'.ownBlock = v.ownBlock ∨ v'.ownBlock = some wx.heap.size) :
    RowR w4 base (rls ++ [(xs, t)]) v' := by
  have hap : ∀ (B : Option Addr) (ys : List Int), Ints wx B ys → ApartV B ys v → ApartV B ys v' := by
    intro B ys hB hB2
    rcases hB.at_ with e | ⟨b, off, rfl, hcb⟩
    · exact .inl e
    · rcases hB2 with e | hB2
      · exact .inl e
      · by_cases hy : ys = []
        · exact .inl hy
        · refine .inr (fun p hp => ?_)
          have hp2 := Option.some.inj hp
          rcases hv with e | e
          · rw [e]; exact hB2 p hp
          · rw [e]
            have hlt := cell_lt (hcb 0 (List.length_pos_iff.2 hy))
            intro he
            have := Option.some.inj he
            rw [← hp2] at this
            simp only at this hlt
            omega
  refine ⟨_, by rw [List.length_append]; exact ho, fun i hi => ?_⟩
  rw [List.length_append] at hi
  simp only [List.length_cons, List.length_nil, Nat.zero_add] at hi
  by_cases hlt : i < rls.length
  · obtain ⟨B, d, e1, e2, e3, e4, e5⟩ := hc i hlt
    rw [List.getElem?_append_left hlt]
    exact ⟨B, d, by rw [List.getElem?_append_left (by omega)]; exact e1, by rw [List.getElem?_append_left (by omega)]; exact e2, e3.grown hg e4, hap _ _ e3 e4, e5⟩
  · obtain rfl : i = rls.length := by omega
    refine ⟨A, c, ?_, ?_, ?_, ?_, ?_⟩
    · rw [List.getElem?_append_right (by omega), hcl, Nat.sub_self]; simp
    · rw [List.getElem?_append_right (by omega), hcl, show rls.length * 2 + 1 - rls.length * 2 = 1 by omega]; simp
    · simp only [List.getElem?_append_right (Nat.le_refl _), Nat.sub_self, List.getElem?_cons_zero, Option.getD_some]; exact hA.grown hg ha
    · simp only [List.getElem?_append_right (Nat.le_refl _), Nat.sub_self, List.getElem?_cons_zero, Option.getD_some]; exact hap _ _ hA ha
    · simp only [List.getElem?_append_right (Nat.le_refl _), Nat.sub_self, List.getElem?_cons_zero, Option.getD_some]; exact hf
theorem Own.cellsB {w : World} {m c : Nat} {A : Option Addr} {xs : List Int} (h : Own w m (.slice A xs.length c) xs) (i : Nat) (hi : i < xs.length) : ∃ b, A = some ⟨b, 0, none⟩ ∧ m ≤ b ∧ b < w.heap.size := by
  rcases h.2 with ⟨_, hn⟩ | ⟨g, cap, cur, hv, hg, hh, _⟩
  · omega
  · simp only [Value.slice.injEq] at hv
    exact ⟨g, hv.1, hg, (Array.getElem?_eq_some_iff.1 hh).1⟩
end Go.Proofs.Ytdgleicpcjfnoaa
