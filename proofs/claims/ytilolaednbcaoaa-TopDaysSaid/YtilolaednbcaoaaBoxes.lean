/- Terms in variables of a law's own, and what Close and Reopen answer as terms. -/
import Derived.Test.YtilolaednbcaoaaClose
import Derived.Test.YtilolaednbcaoaaCloseOneM
import Derived.Test.YtilolaednbcaoaaRSame
set_option linter.unusedVariables false
namespace Go.Proofs.Ytilolaednbcaoaa
open Go.RowKit

def BoxT (w : World) (g : Nat) (L : Int) (r c : Value) : Prop := w.cell? ⟨g, 0, none⟩ = some (.int .i64 L) ∧ w.cell? ⟨g, 1, none⟩ = some r ∧ w.cell? ⟨g, 2, none⟩ = some c
theorem BoxT.keep {w w' : World} {g : Nat} {L : Int} {r c : Value} (h : BoxT w g L r c) (hb : Below w.heap.size w w') : BoxT w' g L r c :=
  ⟨by rw [hb.cell (cell_lt h.1)]; exact h.1, by rw [hb.cell (cell_lt h.2.1)]; exact h.2.1, by rw [hb.cell (cell_lt h.2.2)]; exact h.2.2⟩
theorem BoxT.keepN {w w' : World} {g n : Nat} {L : Int} {r c : Value} (h : BoxT w g L r c) (hb : Below n w w') (hg : g < n) : BoxT w' g L r c :=
  ⟨by rw [hb.cell hg]; exact h.1, by rw [hb.cell hg]; exact h.2.1, by rw [hb.cell hg]; exact h.2.2⟩
theorem BoxT.made (w : World) (L : Int) (r c : Value) : BoxT (w.alloc (.cells #[.int .i64 L, r, c] 24)) w.heap.size L r c :=
  ⟨by go_simp, by go_simp, by go_simp⟩
theorem BoxT.lt {w : World} {g : Nat} {L : Int} {r c : Value} (h : BoxT w g L r c) : g < w.heap.size := cell_lt h.1
theorem made_below (w : World) (L : Int) (r c : Value) : Below w.heap.size w (w.alloc (.cells #[.int .i64 L, r, c] 24)) := (Below.refl _ _).alloc (Nat.le_refl _) _

/-- Cells of a block at or beyond m and before n that may be written. -/
def Writ (w : World) (m n : Nat) (A : Option Addr) (k : Nat) : Prop := ∀ i, i < k → ∃ b, A = some ⟨b, 0, none⟩ ∧ m ≤ b ∧ b < n ∧ (∃ u, w.cell? ⟨b, i, none⟩ = some u) ∧ w.frozen? ⟨b, i, none⟩ = false
theorem Own.writ {w : World} {m c : Nat} {A : Option Addr} {xs : List Int} (h : Own w m (.slice A xs.length c) xs) : Writ w m w.heap.size A xs.length := by
  intro i hi
  rcases h.2 with ⟨_, hn⟩ | ⟨g, cap, cur, hv, hg, hh, hc, hm, hs, ht⟩
  · omega
  · simp only [Value.slice.injEq] at hv
    refine ⟨g, hv.1, hg, (Array.getElem?_eq_some_iff.1 hh).1, ⟨cur[i]'(by omega), ?_⟩, frozen_block hh _⟩
    rw [cell_block hh, Array.getElem?_eq_getElem (by omega)]
theorem Writ.keep {w w' : World} {m n k : Nat} {A : Option Addr} (h : Writ w m n A k) (hb : Below n w w') : Writ w' m n A k := by
  intro i hi
  obtain ⟨b, h1, h2, h3, ⟨u, h4⟩, h5⟩ := h i hi
  exact ⟨b, h1, h2, h3, ⟨u, by rw [hb.cell h3]; exact h4⟩, by rw [hb.frozen h3]; exact h5⟩
theorem Writ.set {w : World} {m n k : Nat} {A : Option Addr} (h : Writ w m n A k) (p : Addr) (v : Value) : Writ (w.setCell p v) m n A k := by
  intro i hi
  obtain ⟨b, h1, h2, h3, ⟨u, h4⟩, h5⟩ := h i hi
  refine ⟨b, h1, h2, h3, ?_, by rw [World.frozen?_setCell]; exact h5⟩
  by_cases hp : p = ⟨b, i, none⟩
  · subst hp
    exact ⟨v, World.cell?_setCell_same _ _ _ h4⟩
  · exact ⟨u, by rw [World.cell?_setCell_other _ _ _ _ hp]; exact h4⟩
/-- What the loops that write hold on to. -/
def LoopS (W : World) (m g : Nat) (L : Int) (A : Option Addr) (n a : Nat) (B : Option Addr) (k b : Nat) (w : World) : Prop :=
  BoxT w g L (.slice A n a) (.slice B k b) ∧ Writ w m g A n ∧ Writ w m g B k ∧ Below m W w
theorem LoopS.set {W : World} {m g : Nat} {L : Int} {A : Option Addr} {n a : Nat} {B : Option Addr} {k b : Nat} {w : World} (h : LoopS W m g L A n a B k b w) {x i : Nat} (h1 : m ≤ x) (h2 : x < g) (v : Value) : LoopS W m g L A n a B k b (w.setCell ⟨x, i, none⟩ v) := by
  obtain ⟨⟨c0, c1, c2⟩, wa, wb, hb⟩ := h
  refine ⟨⟨?_, ?_, ?_⟩, wa.set _ _, wb.set _ _, hb.setCell h1 _⟩
  · rw [World.cell?_setCell_far _ _ _ _ (by simp; omega)]; exact c0
  · rw [World.cell?_setCell_far _ _ _ _ (by simp; omega)]; exact c1
  · rw [World.cell?_setCell_far _ _ _ _ (by simp; omega)]; exact c2
theorem LoopS.keep {W : World} {m g : Nat} {L : Int} {A : Option Addr} {n a : Nat} {B : Option Addr} {k b : Nat} {w w' : World} (h : LoopS W m g L A n a B k b w) (hm : m ≤ g) (hb : Below w.heap.size w w') : LoopS W m g L A n a B k b w' :=
  ⟨h.1.keep hb, h.2.1.keep (hb.mono (Nat.le_of_lt h.1.lt)), h.2.2.1.keep (hb.mono (Nat.le_of_lt h.1.lt)), h.2.2.2.trans (hb.mono (by have := h.1.lt; omega))⟩

/-- An answer that is a term. -/
def GoodT (p : (Int × List Int × List Int) × Int) : Prop := (-9223372036854775808 ≤ p.1.1 ∧ p.1.1 ≤ 9223372036854775807) ∧ (p.1.2.1.length ≤ 1000 ∧ p.1.2.2.length ≤ 1000) ∧ (∀ x ∈ p.1.2.1, -9223372036854775808 ≤ x ∧ x ≤ 9223372036854775807) ∧ ∀ x ∈ p.1.2.2, -9223372036854775808 ≤ x ∧ x ≤ 9223372036854775807
theorem good_zero (e : Int) : GoodT ((0, [], []), e) := ⟨by simp, by simp, by simp, by simp⟩
theorem good_close {L : Int} {rs cs : List Int} {d : Int} (h : GoodT ((L, rs, cs), 0)) : GoodT (closeL L rs cs d) := by
  by_cases he : (closeL L rs cs d).2 = 0
  · obtain ⟨h2, h3, h4, h5⟩ := closeL_ok he
    obtain ⟨hv, _, _⟩ := checkD_ok h2
    obtain ⟨_, v2, _⟩ := validT_ok hv
    rw [h5]
    have := withTo_len cs d L.toNat
    exact ⟨h.1, ⟨h.2.1.1, by dsimp only; omega⟩, h.2.2.1, fun x hx => by have := ((withTo_mem _ _ _ _).1 hx).2; omega⟩
  · unfold closeL at he ⊢
    split
    · exact good_zero _
    · split
      · exact good_zero _
      · split
        · exact good_zero _
        · exfalso; simp_all
theorem good_reopen {L : Int} {rs cs : List Int} {d : Int} (h : GoodT ((L, rs, cs), 0)) : GoodT (reopenL L rs cs d) := by
  unfold reopenL
  split
  · exact good_zero _
  · split
    · refine ⟨h.1, ⟨h.2.1.1, ?_⟩, h.2.2.1, fun x hx => h.2.2.2 x (List.mem_filter.1 hx).1⟩
      have := List.length_filter_le (fun x => x != d) cs
      have := h.2.1.2
      dsimp only at *
      rw [lessDay]; omega
    · exact good_zero _
theorem close_reopen2 {L : Int} {rs cs : List Int} {d : Int} (h : (closeL L rs cs d).2 = 0) : reopenL (closeL L rs cs d).1.1 (closeL L rs cs d).1.2.1 (closeL L rs cs d).1.2.2 d = ((L, rs, cs), 0) := by
  have h1 := close_reopen h
  obtain ⟨_, _, _, h4⟩ := closeL_ok h
  rw [h4] at h1 ⊢
  exact h1
theorem reopen_close2 {L : Int} {rs cs : List Int} {d : Int} (h : (reopenL L rs cs d).2 = 0) : closeL (reopenL L rs cs d).1.1 (reopenL L rs cs d).1.2.1 (reopenL L rs cs d).1.2.2 d = ((L, rs, cs), 0) := by
  have h1 := reopen_close h
  obtain ⟨_, _, h4⟩ := reopenL_ok h
  rw [h4] at h1 ⊢
  exact h1
theorem GoodT.at {p : (Int × List Int × List Int) × Int} (h : GoodT p) {w : World} {m n : Nat} {A B : Option Addr} {a b : Nat} (hA : Own w m (.slice A p.1.2.1.length a) p.1.2.1) (hB : Own w n (.slice B p.1.2.2.length b) p.1.2.2) : TermAt w p.1.1 A p.1.2.1 B p.1.2.2 := by
  obtain ⟨⟨g1, g2⟩, ⟨g3, g4⟩, g5, g6⟩ := h
  obtain ⟨_, _, hv, iA⟩ := hA.ints (by omega) g5
  cases hv
  obtain ⟨_, _, hv, iB⟩ := hB.ints (by omega) g6
  cases hv
  exact ⟨iA, iB, g1, g2⟩
theorem sameT_self (L : Int) (rs cs : List Int) : sameT L rs cs L rs cs = true := by simp [sameT, sameB]
end Go.Proofs.Ytilolaednbcaoaa
