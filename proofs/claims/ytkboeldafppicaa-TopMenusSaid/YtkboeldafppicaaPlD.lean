/- What Plain answers, as one relation that answers one thing alone; a machine in a box. -/
import Derived.Test.YtkboeldafppicaaMPlain
set_option linter.unusedVariables false
namespace Go.Proofs.Ytkboeldafppicaa
open Go.RowKit

theorem langOf_in {S : Type} {L : Nat} {next : S → Nat → S} {acc : S → Bool} {s : S} {w : List Nat} (hw : Wd L w) : langOf L next acc s w = acc (w.foldl next s) := by
  unfold langOf; rw [if_pos hw]
theorem langOf_out {S : Type} {L : Nat} {next : S → Nat → S} {acc : S → Bool} {s : S} {w : List Nat} (hw : ¬ Wd L w) : langOf L next acc s w = false := by
  unfold langOf; rw [if_neg hw]
theorem lang_self {S : Type} {L : Nat} {next : S → Nat → S} {acc : S → Bool} (s : S) : langOf L dv ep (langOf L next acc s) = langOf L next acc s := by
  funext w
  by_cases hw : Wd L w
  · rw [langOf_in hw, foldl_dv w hw, langOf_ep, langOf_in hw]
  · rw [langOf_out hw, langOf_out hw]
theorem good_vE {L : Nat} {rows : List (List Int)} {accs : List Bool} (h : GoodM L rows accs) (h64 : rows.length ≤ 64) : vE L rows accs = 0 := by
  unfold vE
  have h1 := h.lo
  have h2 := h.hi
  have h3 := h.pos
  have h4 := h.acc
  rw [if_neg (by omega), if_neg (by omega), if_neg (by omega), if_pos]
  intro r hr
  obtain ⟨i, hi, rfl⟩ := List.getElem_of_mem hr
  have h5 := h.row i hi
  rw [List.getElem?_eq_getElem hi, Option.getD_some] at h5
  refine ⟨by omega, allB_iff.2 fun x hx => ?_⟩
  obtain ⟨c, hc, rfl⟩ := List.getElem_of_mem hx
  obtain ⟨h6, h7⟩ := h.ent i c hi (by omega)
  rw [List.getElem?_eq_getElem hi, Option.getD_some, List.getElem?_eq_getElem hc, Option.getD_some] at h7
  omega
def PlD (L : Int) (rows : List (List Int)) (accs : List Bool) (M : Int) (t : List (List Int)) (bs : List Bool) (v : Int) : Prop :=
  (vE L rows accs ≠ 0 ∧ M = 0 ∧ t = [] ∧ bs = [] ∧ v = vE L rows accs) ∨ (vE L rows accs = 0 ∧ ∃ i, FullC L.toNat (mLang L.toNat rows accs 0) i ∧ ((64 < i ∧ M = 0 ∧ t = [] ∧ bs = [] ∧ v = 4) ∨ (i ≤ 64 ∧ M = L ∧ t = (canon L.toNat (mLang L.toNat rows accs 0) i).2.1 ∧ bs = (canon L.toNat (mLang L.toNat rows accs 0) i).2.2 ∧ v = 0)))
theorem machFrom_nil (w : World) (B : Nat) : MachFrom w B none [] none [] := ⟨⟨by simp, .inl rfl, by simp, .inl rfl⟩, .inl rfl, .inl rfl⟩
theorem pla_out {w' : World} {B : Nat} {L : Int} {rows : List (List Int)} {accs : List Bool} {e : Ending} (h : PlA w' B L rows accs e) : ∃ M t bs v Na nc Aa ac, PlD L rows accs M t bs v ∧ e = .returned (.tuple #[machV M Na t.length nc Aa bs.length ac, .int .i64 v]) ∧ MachFrom w' B Na t Aa bs := by
  rcases h with ⟨hv, rfl⟩ | ⟨hv, i, hF, hans⟩
  · exact ⟨0, [], [], vE L rows accs, none, 0, none, 0, .inl ⟨hv, rfl, rfl, rfl, rfl⟩, rfl, machFrom_nil _ _⟩
  · rcases hans with ⟨h64, rfl⟩ | ⟨h64, Na, nc, Aa, ac, rfl, hM⟩
    · exact ⟨0, [], [], 4, none, 0, none, 0, .inr ⟨hv, i, hF, .inl ⟨h64, rfl, rfl, rfl, rfl⟩⟩, rfl, machFrom_nil _ _⟩
    · obtain ⟨l1, l2⟩ := listTo_len L.toNat dv ep (mLang L.toNat rows accs 0) i
      obtain ⟨n, rfl⟩ := vE_nat hv
      rw [Int.toNat_natCast] at *
      exact ⟨n, _, _, 0, Na, nc, Aa, ac, .inr ⟨hv, i, by rw [Int.toNat_natCast]; exact hF, .inr ⟨h64, rfl, by rw [Int.toNat_natCast], by rw [Int.toNat_natCast], rfl⟩⟩, by unfold canon; rw [l1, l2], hM⟩
theorem PlD.unique {L : Int} {rows : List (List Int)} {accs : List Bool} {M M' : Int} {t t' : List (List Int)} {bs bs' : List Bool} {v v' : Int} (h : PlD L rows accs M t bs v) (h' : PlD L rows accs M' t' bs' v') : M' = M ∧ t' = t ∧ bs' = bs ∧ v' = v := by
  rcases h with ⟨hv, rfl, rfl, rfl, rfl⟩ | ⟨hv, i, hF, hans⟩
  · rcases h' with ⟨hv', rfl, rfl, rfl, rfl⟩ | ⟨hv', _⟩
    · exact ⟨rfl, rfl, rfl, rfl⟩
    · exact absurd hv' hv
  · rcases h' with ⟨hv', _⟩ | ⟨_, j, hF', hans'⟩
    · exact absurd hv hv'
    · obtain rfl := hF.unique hF'
      rcases hans with ⟨h64, rfl, rfl, rfl, rfl⟩ | ⟨h64, rfl, rfl, rfl, rfl⟩ <;> rcases hans' with ⟨h64', rfl, rfl, rfl, rfl⟩ | ⟨h64', rfl, rfl, rfl, rfl⟩
      · exact ⟨rfl, rfl, rfl, rfl⟩
      · omega
      · omega
      · exact ⟨rfl, rfl, rfl, rfl⟩
/-- A right plain form: its own plain form. -/
theorem PlD.again {L : Int} {rows : List (List Int)} {accs : List Bool} {M M' : Int} {t t' : List (List Int)} {bs bs' : List Bool} {v' : Int} (h : PlD L rows accs M t bs 0) (h' : PlD M t bs M' t' bs' v') : v' = 0 ∧ M' = M ∧ t' = t ∧ bs' = bs := by
  rcases h with ⟨hv, _, _, _, e⟩ | ⟨hv, i, hF, hans⟩
  · exact absurd e.symm hv
  · rcases hans with ⟨_, _, _, _, e⟩ | ⟨h64, hM, ht, hbs, _⟩
    · cases e
    · obtain ⟨n, rfl⟩ := vE_nat hv
      subst hM
      rw [Int.toNat_natCast] at hF ht hbs
      obtain ⟨hg0, _⟩ := vE_ok hv
      have hg : GoodM n t bs := by rw [ht, hbs]; exact (full_good hg0.lo hg0.hi (L := n) (next := dv) (acc := ep) (s0 := mLang n rows accs 0) hF).1
      have hl : mLang n t bs 0 = mLang n rows accs 0 := by
        rw [ht, hbs]
        have := (full_lang hg0.lo hg0.hi (L := n) (next := dv) (acc := ep) (s0 := mLang n rows accs 0) hF).1
        unfold canon
        rw [this]
        exact lang_self 0
      have hti : t.length = i := by rw [ht]; exact (listTo_len n dv ep (mLang n rows accs 0) i).1
      have hv0 : vE n t bs = 0 := good_vE hg (by omega)
      rcases h' with ⟨hv', _⟩ | ⟨_, j, hF', hans'⟩
      · exact absurd hv0 hv'
      · rw [Int.toNat_natCast, hl] at hF' hans'
        obtain rfl := hF.unique hF'
        rcases hans' with ⟨h64', _⟩ | ⟨_, h1, h2, h3, h4⟩
        · omega
        · exact ⟨h4, h1, by rw [h2, ht], by rw [h3, hbs]⟩
theorem PlD.size {L : Int} {rows : List (List Int)} {accs : List Bool} {M : Int} {t : List (List Int)} {bs : List Bool} {v : Int} (h : PlD L rows accs M t bs v) : t.length ≤ 64 ∧ ∀ i, i < t.length → 0 < (t[i]?.getD []).length := by
  rcases h with ⟨_, _, rfl, _, _⟩ | ⟨hv, i, hF, ⟨_, _, rfl, _, _⟩ | ⟨h64, _, rfl, _, _⟩⟩
  · exact ⟨by simp, fun i hi => by simp at hi⟩
  · exact ⟨by simp, fun i hi => by simp at hi⟩
  · obtain ⟨n, rfl⟩ := vE_nat hv
    obtain ⟨hg0, _⟩ := vE_ok hv
    have hl := (listTo_len (n : Int).toNat dv ep (mLang (n : Int).toNat rows accs 0) i).1
    refine ⟨by unfold canon; omega, fun j hj => ?_⟩
    have hm : (canon (n : Int).toNat (mLang (n : Int).toNat rows accs 0) i).2.1[j]?.getD [] ∈ (canon (n : Int).toNat (mLang (n : Int).toNat rows accs 0) i).2.1 := by rw [List.getElem?_eq_getElem hj]; exact List.getElem_mem hj
    have := rowTo_rows (n : Int).toNat dv ep (mLang (n : Int).toNat rows accs 0) i _ hm
    rw [this, Int.toNat_natCast]
    exact hg0.lo
/-- A machine in a box. -/
structure BoxM (w : World) (p : Nat) (M : Int) (Na : Option Addr) (n nc : Nat) (Aa : Option Addr) (m ac : Nat) : Prop where
  c0 : w.cell? ⟨p, 0, none⟩ = some (.int .i64 M)
  c1 : w.cell? ⟨p, 1, none⟩ = some (.slice Na n nc)
  c2 : w.cell? ⟨p, 2, none⟩ = some (.slice Aa m ac)
theorem BoxM.below {w w' : World} {p : Nat} {M : Int} {Na : Option Addr} {n nc : Nat} {Aa : Option Addr} {m ac : Nat} (h : BoxM w p M Na n nc Aa m ac) (hb : Below w.heap.size w w') : BoxM w' p M Na n nc Aa m ac :=
  ⟨(hb.cell (cell_lt h.c0)).trans h.c0, (hb.cell (cell_lt h.c1)).trans h.c1, (hb.cell (cell_lt h.c2)).trans h.c2⟩
theorem BoxM.low {w w' : World} {p B : Nat} {M : Int} {Na : Option Addr} {n nc : Nat} {Aa : Option Addr} {m ac : Nat} (h : BoxM w p M Na n nc Aa m ac) (hb : Below B w w') (hp : p < B) : BoxM w' p M Na n nc Aa m ac :=
  ⟨(hb.cell hp).trans h.c0, (hb.cell hp).trans h.c1, (hb.cell hp).trans h.c2⟩
theorem BoxM.made (w : World) (M : Int) (Na : Option Addr) (n nc : Nat) (Aa : Option Addr) (m ac : Nat) : BoxM (w.alloc (.cells #[.int .i64 M, .slice Na n nc, .slice Aa m ac] 25)) w.heap.size M Na n nc Aa m ac := ⟨by go_simp, by go_simp, by go_simp⟩
/-- The rows of a machine that are being spoilt. -/
structure Spoil (w0 w : World) (B p b : Nat) (Na : Option Addr) (t : List (List Int)) (nc : Nat) : Prop where
  bel : Below B w0 w
  box : w.cell? ⟨p, 1, none⟩ = some (.slice Na t.length nc)
  rows : ∀ i, i < t.length → ∃ g cg u, w.cell? ⟨b, i, none⟩ = some (.slice (some ⟨g, 0, none⟩) (t[i]?.getD []).length cg) ∧ B ≤ g ∧ g ≠ b ∧ g < p ∧ w.cell? ⟨g, 0, none⟩ = some u ∧ w.frozen? ⟨g, 0, none⟩ = false
theorem Spoil.store {w0 w : World} {B p b : Nat} {Na : Option Addr} {t : List (List Int)} {nc : Nat} (h : Spoil w0 w B p b Na t nc) {g : Nat} (hg : B ≤ g) (hgb : g ≠ b) (hgp : g < p) (x : Value) : Spoil w0 (w.setCell ⟨g, 0, none⟩ x) B p b Na t nc := by
  refine ⟨h.bel.setCell (p := ⟨g, 0, none⟩) hg _, by rw [World.cell?_setCell_other _ _ _ _ (by simp only [ne_eq, Addr.mk.injEq]; omega)]; exact h.box, fun i hi => ?_⟩
  obtain ⟨g', cg, u, h1, h2, h3, h4, h5, h6⟩ := h.rows i hi
  by_cases e : g' = g
  · subst e
    exact ⟨g', cg, x, by rw [World.cell?_setCell_other _ _ _ _ (by simp only [ne_eq, Addr.mk.injEq]; omega)]; exact h1, h2, h3, h4, World.cell?_setCell_same _ _ _ h5, by rw [World.frozen?_setCell]; exact h6⟩
  · exact ⟨g', cg, u, by rw [World.cell?_setCell_other _ _ _ _ (by simp only [ne_eq, Addr.mk.injEq]; omega)]; exact h1, h2, h3, h4, by rw [World.cell?_setCell_other _ _ _ _ (by simp only [ne_eq, Addr.mk.injEq]; omega)]; exact h5, by rw [World.frozen?_setCell]; exact h6⟩
theorem Spoil.start {w4 W : World} {B : Nat} {Ng Ag : Option Addr} {t : List (List Int)} {bs : List Bool} {nc : Nat} (h : MachFrom w4 B Ng t Ag bs) (hpos : ∀ i, i < t.length → 0 < (t[i]?.getD []).length) (hb : Below w4.heap.size w4 W) (hbox : W.cell? ⟨w4.heap.size, 1, none⟩ = some (.slice Ng t.length nc)) :
    ∃ b, (t = [] ∨ Ng = some ⟨b, 0, none⟩) ∧ Spoil W W B w4.heap.size b Ng t nc := by
  rcases h.own with rfl | ⟨b, h1, h2, h3⟩
  · exact ⟨0, .inl rfl, ⟨Below.refl _ _, hbox, fun i hi => by simp at hi⟩⟩
  · refine ⟨b, .inr h1, ⟨Below.refl _ _, hbox, fun i hi => ?_⟩⟩
    obtain ⟨g, cg, a1, a2, a3, a4, a5⟩ := h3 i hi
    obtain ⟨b', off, g', o', k', e1, e2, e3, _⟩ := h.mach.row i 0 hi (hpos i hi)
    rw [h1] at e1
    simp only [Option.some.injEq, Addr.mk.injEq, and_true] at e1
    obtain ⟨rfl, rfl⟩ := e1
    rw [Nat.zero_add, a1] at e2
    simp only [Option.some.injEq, Value.slice.injEq, Addr.mk.injEq, and_true, true_and] at e2
    obtain ⟨⟨rfl, rfl⟩, _⟩ := e2
    exact ⟨g, cg, _, (hb.cell (cell_lt a1)).trans a1, a2, a3, a4, (hb.cell (p := ⟨g, 0, none⟩) a4).trans e3, (hb.frozen (p := ⟨g, 0, none⟩) a4).trans (a5 0)⟩
end Go.Proofs.Ytkboeldafppicaa
