/- The document's Copy of a book. -/
import Derived.Test.YtdgleicpcjfnoaaRCopyR
import Derived.Deep.Cut
import Derived.Deep.RegionHeld3
/- Rows of items that a call makes: what an append keeps. -/
set_option linter.unusedVariables false
namespace Go.Proofs.Ytdgleicpcjfnoaa
open Go.RowKit

/-- A set that a row owns: it reads, lies in another block than the row, and at or above the base. -/
structure OwnSet (w : World) (base : Nat) (v : Value) (A : Option Addr) (xs : List Int) : Prop where
  ints : Ints w A xs
  apart : ApartV A xs v
  far : FarV base A xs
/-- A row of items of the call's own. -/
def ItemR (w : World) (base : Nat) (its : List ItemL) (v : Value) : Prop :=
  ∃ cl : List Value, w.ownsRow base 76 2 v its.length cl ∧ ∀ i, i < its.length → ∃ A c B d, cl[i * 2]? = some (.slice A (its[i]?.getD ([], [])).1.length c) ∧ cl[i * 2 + 1]? = some (.slice B (its[i]?.getD ([], [])).2.length d) ∧ OwnSet w base v A (its[i]?.getD ([], [])).1 ∧ OwnSet w base v B (its[i]?.getD ([], [])).2
theorem ItemR.nil (w : World) (base : Nat) : ItemR w base [] (.slice none 0 0) := ⟨[], ⟨rfl, .inl ⟨rfl, rfl⟩⟩, fun i hi => by simp at hi⟩
theorem ItemR.items {w : World} {base : Nat} {its : List ItemL} {v : Value} (h : ItemR w base its v) (hl : its.length ≤ 140737488355328) :
    ∃ a c, v = .slice a its.length c ∧ ∀ w', SameAbove base w w' → ItemsAt w' a its := by
  obtain ⟨cl, ho, hc⟩ := h
  rcases ho.2 with ⟨hv, hn⟩ | ⟨g, c, cur, hv, hg, _⟩
  · exact ⟨none, 0, by rw [hv, hn], fun _ _ => ⟨hl, .inl (List.eq_nil_of_length_eq_zero hn)⟩⟩
  · subst hv
    refine ⟨_, c, rfl, fun w' hs => ⟨hl, .inr ⟨g, 0, rfl, fun i hi => ?_⟩⟩⟩
    obtain ⟨A, c1, B, d, h1, h2, h3, h4⟩ := hc i hi
    exact ⟨A, c1, B, d, by rw [Nat.zero_add]; exact hs _ _ _ hg (row_cells ho _ _ h1), by rw [Nat.zero_add]; exact hs _ _ _ hg (row_cells ho _ _ h2), h3.ints.above hs h3.far, h4.ints.above hs h4.far⟩
/-- What an append leaves of a set that the row owns. -/
theorem OwnSet.pushed {wx w4 : World} {base : Nat} {v v' : Value} {A : Option Addr} {xs : List Int} (h : OwnSet wx base v A xs) (hg : wx.grownBy w4 v.ownBlock) (hv : v'.ownBlock = v.ownBlock ∨ v'.ownBlock = some wx.heap.size) : OwnSet w4 base v' A xs := by
  refine ⟨h.ints.grown hg h.apart, ?_, h.far⟩
  rcases h.ints.at_ with e | ⟨b, off, rfl, hcb⟩
  · exact .inl e
  · rcases h.apart with e | hB2
    · exact .inl e
    · by_cases hy : xs = []
      · exact .inl hy
      · refine .inr (fun p hp => ?_)
        have hp2 := Option.some.inj hp
        rcases hv with e | e
        · rw [e]; exact hB2 p hp
        · rw [e]
          have hlt := cell_lt (hcb 0 (List.length_pos_iff.2 hy))
          intro he
          have := Option.some.inj he
          rw [← hp2] at this
          simp only at this hlt
          omega
/-- One item more. -/
theorem ItemR.push {wx w4 : World} {base : Nat} {its : List ItemL} {v v' : Value} {cl : List Value} (hcl : cl.length = its.length * 2)
    (hc : ∀ i, i < its.length → ∃ A c B d, cl[i * 2]? = some (.slice A (its[i]?.getD ([], [])).1.length c) ∧ cl[i * 2 + 1]? = some (.slice B (its[i]?.getD ([], [])).2.length d) ∧ OwnSet wx base v A (its[i]?.getD ([], [])).1 ∧ OwnSet wx base v B (its[i]?.getD ([], [])).2)
    {A B : Option Addr} {c d : Nat} {xs ys : List Int} (hA : OwnSet wx base v A xs) (hB : OwnSet wx base v B ys)
    (ho : w4.ownsRow base 76 2 v' (its.length + 1) (cl ++ [.slice A xs.length c, .slice B ys.length d])) (hg : wx.grownBy w4 v.ownBlock) (hv : v'.ownBlock = v.ownBlock ∨ v'.ownBlock = some wx.heap.size) :
    ItemR w4 base (its ++ [(xs, ys)]) v' := by
  refine ⟨_, by rw [List.length_append]; exact ho, fun i hi => ?_⟩
  rw [List.length_append] at hi
  simp only [List.length_cons, List.length_nil, Nat.zero_add] at hi
  by_cases hlt : i < its.length
  · obtain ⟨A1, c1, B1, d1, e1, e2, e3, e4⟩ := hc i hlt
    rw [List.getElem?_append_left hlt]
    exact ⟨A1, c1, B1, d1, by rw [List.getElem?_append_left (by omega)]; exact e1, by rw [List.getElem?_append_left (by omega)]; exact e2, e3.pushed hg hv, e4.pushed hg hv⟩
  · obtain rfl : i = its.length := by omega
    refine ⟨A, c, B, d, ?_, ?_, ?_, ?_⟩
    · rw [List.getElem?_append_right (by omega), hcl, Nat.sub_self]; simp
    · rw [List.getElem?_append_right (by omega), hcl, show its.length * 2 + 1 - its.length * 2 = 1 by omega]; simp
    · simp only [List.getElem?_append_right (Nat.le_refl _), Nat.sub_self, List.getElem?_cons_zero, Option.getD_some]; exact hA.pushed hg hv
    · simp only [List.getElem?_append_right (Nat.le_refl _), Nat.sub_self, List.getElem?_cons_zero, Option.getD_some]; exact hB.pushed hg hv
end Go.Proofs.Ytdgleicpcjfnoaa
/- Rows of items: what stores elsewhere keep; copies of sets, and where they lie. -/
set_option linter.unusedVariables false
namespace Go.Proofs.Ytdgleicpcjfnoaa
open Go.RowKit

theorem far_apart {n : Nat} {A : Option Addr} {xs : List Int} {v : Value} (h : FarV n A xs) (hv : ∀ q, v.ownBlock = some q → q < n) : ApartV A xs v := by
  rcases h with e | h
  · exact .inl e
  · exact .inr (fun p hp he => by have := h p hp; have := hv _ he; omega)
theorem FarV.mono {n m : Nat} {A : Option Addr} {xs : List Int} (h : FarV n A xs) (hm : m ≤ n) : FarV m A xs := by
  rcases h with e | h
  · exact .inl e
  · exact .inr (fun p hp => Nat.le_trans hm (h p hp))
theorem SameAbove.setCell {base : Nat} (w : World) (p : Addr) (v : Value) (hp : p.block < base) : SameAbove base w (w.setCell p v) := by
  intro b off u hb h0
  rw [World.cell?_setCell_far _ _ _ _ (by dsimp only; omega)]
  exact h0
theorem OwnSet.below {w w' : World} {base : Nat} {v : Value} {A : Option Addr} {xs : List Int} (h : OwnSet w base v A xs) (hb : Below w.heap.size w w') : OwnSet w' base v A xs := ⟨h.ints.below hb, h.apart, h.far⟩
theorem OwnSet.setCell {w : World} {base : Nat} {v : Value} {A : Option Addr} {xs : List Int} (h : OwnSet w base v A xs) (p : Addr) (u : Value) (hp : p.block < base) : OwnSet (w.setCell p u) base v A xs := ⟨h.ints.above (SameAbove.setCell w p u hp) h.far, h.apart, h.far⟩
theorem ItemR.setCell {w : World} {base : Nat} {its : List ItemL} {v : Value} (h : ItemR w base its v) (p : Addr) (u : Value) (hp : p.block < base) : ItemR (w.setCell p u) base its v := by
  obtain ⟨cl, h1, h2⟩ := h
  refine ⟨cl, own_setCell h1 p hp u, fun i hi => ?_⟩
  obtain ⟨A, c, B, d, e1, e2, e3, e4⟩ := h2 i hi
  exact ⟨A, c, B, d, e1, e2, e3.setCell p u hp, e4.setCell p u hp⟩
theorem ItemR.rows {w : World} {base : Nat} {its : List ItemL} {v : Value} (h : ItemR w base its v) {wx : World} (hb : Below w.heap.size w wx) : ∃ cl : List Value, cl.length = its.length * 2 ∧ wx.ownsRow base 76 2 v its.length cl ∧ Hid (∀ i, i < its.length → ∃ A c B d, cl[i * 2]? = some (.slice A (its[i]?.getD ([], [])).1.length c) ∧ cl[i * 2 + 1]? = some (.slice B (its[i]?.getD ([], [])).2.length d) ∧ OwnSet wx base v A (its[i]?.getD ([], [])).1 ∧ OwnSet wx base v B (its[i]?.getD ([], [])).2) := by
  obtain ⟨cl, h1, h2⟩ := h
  refine ⟨cl, h1.1, own_below h1 hb, fun i hi => ?_⟩
  obtain ⟨A, c, B, d, e1, e2, e3, e4⟩ := h2 i hi
  exact ⟨A, c, B, d, e1, e2, e3.below hb, e4.below hb⟩
theorem copyInts_far (wr : World) (A : Option Addr) (xs : List Int) (c : Nat) (W : World) (h : Ints W A xs) (hl : xs.length ≤ 1000000) (hb : Below wr.heap.size wr W) :
  Calls Try.prog 46 #[.slice A xs.length c] W fun en w5 => Below W.heap.size W w5 ∧ Below wr.heap.size wr w5 ∧ ∃ A5 c5, en = .returned (.slice A5 xs.length c5) ∧ Hid (Ints w5 A5 xs ∧ FarV wr.heap.size A5 xs) := by
  refine (copyInts_sl A xs c W h hl).mono ?_
  rintro e w5 ⟨hb5, A5, c5, rfl, ho⟩
  refine ⟨hb5, hb.trans (hb5.mono hb.size), A5, c5, rfl, ?_⟩
  obtain ⟨A6, c6, hv, hi⟩ := ho.ints (by omega) h.bd
  cases hv
  exact ⟨hi, own_far ho hb.size⟩
end Go.Proofs.Ytdgleicpcjfnoaa
set_option linter.unusedVariables false
set_option linter.unusedSimpArgs false
namespace Go.Proofs.Ytdgleicpcjfnoaa
open Go.RowKit

/-- The cells from n on are kept, but those of g. -/
def KeepFrom (n g : Nat) (w w' : World) : Prop := ∀ b off v, n ≤ b → b ≠ g → w.cell? ⟨b, off, none⟩ = some v → w'.cell? ⟨b, off, none⟩ = some v
theorem KeepFrom.setCell {n g : Nat} {w w' : World} (h : KeepFrom n g w w') (p : Addr) (u : Value) (hp : p.block < n ∨ p.block = g) : KeepFrom n g w (w'.setCell p u) := by
  intro b off v hn hg h0
  rw [World.cell?_setCell_far _ _ _ _ (by dsimp only; omega)]
  exact h b off v hn hg h0
theorem KeepFrom.below {n g : Nat} {w w1 w2 : World} (h : KeepFrom n g w w1) (hb : Below w.heap.size w1 w2) : KeepFrom n g w w2 := by
  intro b off v hn hg h0
  rw [hb.cell (p := ⟨b, off, none⟩) (cell_lt h0)]
  exact h b off v hn hg h0
theorem item_info : (Try.prog.info? 76).map (fun i => (i.zero, i.size, i.bytes)) = some (some (.agg #[.slice none 0 0, .slice none 0 0]), 2, 48) := by kernel_rfl
/-- The copied rules, kept wherever all but the box g are kept. -/
def RulesFin (n g : Nat) (w : World) (R : Option Addr) (rls : List RuleL) (d : Nat) : Prop := ∀ w', KeepFrom n g w w' → RulesAt w' R rls ∧ rls.length ≤ d
/-- The cells of blocks from n on and below m are kept, but those of g. -/
def KeepIn (n m g : Nat) (w w' : World) : Prop := ∀ b off v, n ≤ b → b < m → b ≠ g → w.cell? ⟨b, off, none⟩ = some v → w'.cell? ⟨b, off, none⟩ = some v
/-- A copied book: its items are a row of the call's own, at or above m; its rules lie below m. -/
structure CopF (w w' : World) (g m : Nat) (A : Option Addr) (its : List ItemL) (c : Nat) (R : Option Addr) (rls : List RuleL) (d : Nat) : Prop where
  glo : w.heap.size + 2 ≤ g
  gm : g < m
  mw : m ≤ w'.heap.size
  items : ItemR w' m its (.slice A its.length c)
  rules : ∀ w'', KeepIn (w.heap.size + 2) m g w' w'' → RulesAt w'' R rls ∧ rls.length ≤ d
set_option maxRecDepth 100000 in
set_option maxHeartbeats 4000000 in
theorem copyBkF_any (P : Int) (ia : Option Addr) (its : List ItemL) (ic : Nat) (ra : Option Addr) (rls : List RuleL) (rc : Nat) (w : World) (h : BookAt w P ia its ra rls) (hli : its.length ≤ 1000) (hlit : ∀ i, i < its.length → (its[i]?.getD ([], [])).1.length ≤ 1000 ∧ (its[i]?.getD ([], [])).2.length ≤ 1000) (hl : rls.length ≤ 1000) (hls : ∀ i, i < rls.length → (rls[i]?.getD ([], 0)).1.length ≤ 1000) :
  Calls Try.prog 16 #[.agg #[.int .i64 P, .slice ia its.length ic, .slice ra rls.length rc]] w (fun en w' => Below w.heap.size w w' ∧ ∃ A c R d g m, en = .returned (.agg #[.int .i64 P, .slice A its.length c, .slice R rls.length d]) ∧ CopF w w' g m A its c R rls d ∧ -9223372036854775808 ≤ P ∧ P ≤ 9223372036854775807) := by
  have HCR := hid (fun W (hb : Below w.heap.size w W) => copyRules_any ra rls rc W (h.rules.below hb) hl hls)
  have HI := hid h.items
  have HLs := hid hlit
  obtain ⟨i0, hinf, hz0, hz1, hz2⟩ := info_parts item_info
  clear hlit
  have hP := And.intro h.lo h.hi
  have hP := And.intro h.lo h.hi
  clear h hls
  go_enter Try.func16, Try.ntmps16
  go_upto_region 1 with (fail)
  have hB0 := ((Below.refl w.heap.size w).alloc (Nat.le_refl _) (.cells #[.int .i64 P, .slice ia its.length ic, .slice ra rls.length rc] 25)).alloc (by simp) (.cells #[.int .i64 0, .slice none 0 0, .slice none 0 0] 25)
  obtain ⟨w2, hw2⟩ : ∃ w2, (w.alloc (.cells #[.int .i64 P, .slice ia its.length ic, .slice ra rls.length rc] 25)).alloc (.cells #[.int .i64 0, .slice none 0 0, .slice none 0 0] 25) = w2 := ⟨_, rfl⟩
  have a0 : w2.cell? ⟨w.heap.size, 0, none⟩ = some (.int .i64 P) := by rw [← hw2]; clear hw2; go_simp
  have a1 : w2.cell? ⟨w.heap.size, 1, none⟩ = some (.slice ia its.length ic) := by rw [← hw2]; clear hw2; go_simp
  have a2 : w2.cell? ⟨w.heap.size, 2, none⟩ = some (.slice ra rls.length rc) := by rw [← hw2]; clear hw2; go_simp
  have q0 : w2.cell? ⟨w.heap.size + 1, 0, none⟩ = some (.int .i64 0) := by rw [← hw2]; clear hw2; go_simp
  have k0 : w2.frozen? ⟨w.heap.size + 1, 0, none⟩ = false := by rw [← hw2]; clear hw2; go_simp
  have q1 : w2.cell? ⟨w.heap.size + 1, 1, none⟩ = some (.slice none 0 0) := by rw [← hw2]; clear hw2; go_simp
  have k1 : w2.frozen? ⟨w.heap.size + 1, 1, none⟩ = false := by rw [← hw2]; clear hw2; go_simp
  have q2 : w2.cell? ⟨w.heap.size + 1, 2, none⟩ = some (.slice none 0 0) := by rw [← hw2]; clear hw2; go_simp
  have k2 : w2.frozen? ⟨w.heap.size + 1, 2, none⟩ = false := by rw [← hw2]; clear hw2; go_simp
  have HQ := hid (And.intro (And.intro q0 (And.intro q1 q2)) (And.intro k0 (And.intro k1 k2)))
  clear q0 q1 q2 k0 k1 k2
  have hs2 : w2.heap.size = w.heap.size + 2 := by rw [← hw2]; simp
  rw [hw2] at hB0 ⊢
  clear hw2
  have HCW := hid (fun W (hb : Below w2.heap.size w2 W) => (HCR.out W (hB0.trans (hb.mono hB0.size))).mono (fun en w5 (hh : Below W.heap.size W w5 ∧ ∃ A c, en = .returned (.slice A rls.length c) ∧ ∀ w'', SameAbove W.heap.size w5 w'' → RulesAt w'' A rls ∧ rls.length ≤ c) =>
    (show Below W.heap.size W w5 ∧ (w5.cell? ⟨w.heap.size, 0, none⟩ = some (.int .i64 P) ∧ Below w2.heap.size w2 w5) ∧ ∃ A c, en = .returned (.slice A rls.length c) ∧ Hid (∀ w'', SameAbove W.heap.size w5 w'' → RulesAt w'' A rls ∧ rls.length ≤ c) from
      ⟨hh.1, ⟨by rw [(hb.trans (hh.1.mono hb.size)).cell (cell_lt a0)]; exact a0, hb.trans (hh.1.mono hb.size)⟩, hh.2⟩)))
  have hr2 : Below w2.heap.size w2 w2 := Below.refl _ _
  have x0 : ((w2.alloc (.cells #[.int .i64 0, .slice none 0 0, .slice none 0 0] 25)).drew).cell? ⟨w2.heap.size, 0, none⟩ = some (.int .i64 0) := by go_simp
  have x1 : ((w2.alloc (.cells #[.int .i64 0, .slice none 0 0, .slice none 0 0] 25)).drew).cell? ⟨w2.heap.size, 1, none⟩ = some (.slice none 0 0) := by go_simp
  have x2 : ((w2.alloc (.cells #[.int .i64 0, .slice none 0 0, .slice none 0 0] 25)).drew).cell? ⟨w2.heap.size, 2, none⟩ = some (.slice none 0 0) := by go_simp
  have f0 : ((w2.alloc (.cells #[.int .i64 0, .slice none 0 0, .slice none 0 0] 25)).drew).frozen? ⟨w2.heap.size, 0, none⟩ = false := by go_simp
  have f1 : ((w2.alloc (.cells #[.int .i64 0, .slice none 0 0, .slice none 0 0] 25)).drew).frozen? ⟨w2.heap.size, 1, none⟩ = false := by go_simp
  have f2 : ((w2.alloc (.cells #[.int .i64 0, .slice none 0 0, .slice none 0 0] 25)).drew).frozen? ⟨w2.heap.size, 2, none⟩ = false := by go_simp
  have H1 := hid (HCW.out w2.drew hr2.drew)
  have H2 := hid ((HCW.out _ (hr2.alloc hr2.size (.cells #[.int .i64 0, .slice none 0 0, .slice none 0 0] 25)).drew).mono (fun en w5 hh => And.intro (And.intro ((hh.1.cell (cell_lt x0)).trans x0) (And.intro ((hh.1.cell (cell_lt x1)).trans x1) (And.intro ((hh.1.cell (cell_lt x2)).trans x2) (And.intro ((hh.1.frozen (cell_lt x0)).trans f0) (And.intro ((hh.1.frozen (cell_lt x1)).trans f1) ((hh.1.frozen (cell_lt x2)).trans f2)))))) hh))
  have hz : w.heap.size + 2 < (w2.alloc (.cells #[.int .i64 0, .slice none 0 0, .slice none 0 0] 25)).drew.heap.size := by simp; omega
  rw [hs2] at H2
  clear x0 x1 x2 f0 f1 f2
  have HKp := hid (fun (w' : World) (hb : Below w2.heap.size w2 w') => (show w'.cell? ⟨w.heap.size, 0, none⟩ = some (.int .i64 P) ∧ w'.cell? ⟨w.heap.size, 2, none⟩ = some (.slice ra rls.length rc) ∧ Below w2.heap.size w2 w' from ⟨by rw [hb.cell (p := ⟨w.heap.size, 0, none⟩) (cell_lt a0)]; exact a0, by rw [hb.cell (p := ⟨w.heap.size, 2, none⟩) (cell_lt a2)]; exact a2, hb⟩))
  go_cut [3] from 5 (fun s3 wx => ∃ (g : Nat) (R : Option Addr) (d : Nat), s3 = .pointer (some ⟨g, 0, none⟩) ∧ w2.heap.size ≤ g ∧ g < wx.heap.size ∧ Below w2.heap.size w2 wx ∧ wx.cell? ⟨g, 0, none⟩ = some (.int .i64 P) ∧ wx.cell? ⟨g, 1, none⟩ = some (.slice none 0 0) ∧ wx.cell? ⟨g, 2, none⟩ = some (.slice R rls.length d) ∧ wx.frozen? ⟨g, 1, none⟩ = false ∧ Hid (RulesFin w2.heap.size g wx R rls d))
  case first =>
    go_region_held3 (fun w' => w'.cell? ⟨w.heap.size, 0, none⟩ = some (.int .i64 P) ∧ w'.cell? ⟨w.heap.size, 2, none⟩ = some (.slice ra rls.length rc) ∧ Below w2.heap.size w2 w')
      ((refine HKp.out _ ?_; repeat (first | exact hr2 | assumption | apply Below.drew | (refine Below.alloc ?_ (by first | exact Below.size (by assumption) | omega | (simp; done) | (simp; omega)) _) | (refine Below.setCell ?_ (by first | exact Below.size (by assumption) | omega | (simp; done) | (simp; omega)) _))))
      ((go_at_call 45; first | (with_reducible refine H2.out.mono ?_; rintro en w5 ⟨⟨d0, d1, d2, e0, e1, e2⟩, hb5, ⟨c0, p5⟩, R, d, rfl, hR⟩; rw [← hs2] at p5) | (with_reducible refine H1.out.mono ?_; rintro en w5 ⟨hb5, ⟨c0, p5⟩, R, d, rfl, hR⟩)))
    · go_wp2_with fail
      go_meet
      case rel =>
        have hz5 := p5.size
        refine ⟨w5.heap.size, R, d, rfl, hz5, by simp, p5.alloc hz5 _, by go_simp, by go_simp, by go_simp, by go_simp, fun w' hk => hR.out w' (fun b off v hb h0 => hk b off v hb (Nat.ne_of_lt (cell_lt h0)) (by rw [World.cell?_alloc_lt _ _ _ (cell_lt h0)]; exact h0))⟩
    · go_wp2_with fail
      go_meet
      case rel =>
        have hg := cell_lt d0
        dsimp only at hg
        refine ⟨w.heap.size + 2, R, d, rfl, Nat.le_of_eq hs2, by simpa using hg, ((p5.setCell (Nat.le_of_eq hs2) _).setCell (Nat.le_of_eq hs2) _).setCell (Nat.le_of_eq hs2) _, by go_simp, by go_simp, by go_simp, by go_simp, fun w' hk => hR.out w' (fun b off v hb h0 => hk b off v (by omega) (by omega) ((((KeepBut.setCell _ _ _ _).trans (KeepBut.setCell _ _ _ _)).trans (KeepBut.setCell _ _ _ _)) b off v (by omega) h0))⟩
  case rest =>
    clear a2 H1 H2 HKp HCW HCR hz
    obtain ⟨g, R, d, rfl, hg2, hgx, hbx, b0, b1, b2, bf, HRF⟩ := hcut
    have hlI := HI.out.len
    have K0 : Hid (KeepFrom w2.heap.size g wc wc) := hid (fun _ _ _ _ _ h => h)
    have R0 := hid (ItemR.nil wc wc.heap.size)
    have hb0 : Below w2.heap.size w2 wc := hbx
    clear hr2
    go_wp2
    go_loopw [4] (fun i wr => ∃ (k : Nat) (v : Value), k ≤ its.length ∧ i = .int .i64 k ∧ Hid (wr.cell? ⟨g, 0, none⟩ = some (.int .i64 P) ∧ wr.cell? ⟨g, 1, none⟩ = some v ∧ wr.cell? ⟨g, 2, none⟩ = some (.slice R rls.length d) ∧ wr.frozen? ⟨g, 1, none⟩ = false) ∧ Hid (ItemR wr wc.heap.size (its.take k) v) ∧ Hid (KeepFrom w2.heap.size g wc wr) ∧ Hid (Below w2.heap.size w2 wr) ∧ wc.heap.size ≤ wr.heap.size) (fun i _ => its.length - (intOf i).toNat)
    case atStart => exact ⟨0, _, Nat.zero_le _, rfl, ⟨b0, b1, b2, bf⟩, R0.out, K0.out, hb0, Nat.le_refl _⟩
    case round =>
      obtain ⟨k, v, hk, rfl, HG, HRow, HK, HBx, hsz⟩ := hrel
      clear b0 b1 b2 bf R0 K0 hb0 hbx
      obtain ⟨g0, g1, g2, gf⟩ := HG.out
      have a1r : wr.cell? ⟨w.heap.size, 1, none⟩ = some (.slice ia its.length ic) := by rw [HBx.out.cell (p := ⟨w.heap.size, 1, none⟩) (cell_lt a1)]; exact a1
      by_cases hlt : k < its.length
      · rcases HI.out.at_ with e | ⟨b, off, rfl, hc⟩
        · rw [e] at hlt; simp at hlt
        obtain ⟨A, c, B, d2, c0, c1, hA, hB⟩ := hc k hlt
        have hps := HLs.out k hlt
        have HTk := hid (take_snoc its ([], []) k hlt)
        have hkl : (its.take k).length = k := by rw [List.length_take]; omega
        have hlk : (k : Int) < (its.length : Int) := by omega
        have hk0 : (0 : Int) ≤ (k : Int) := by omega
        have hbl := cell_lt c0
        dsimp only at hbl
        clear hc
        generalize its[k]?.getD ([], []) = it at *
        obtain ⟨ps, ys⟩ := it
        dsimp only at c0 c1 hA hB hps
        have hww : Below w.heap.size w wr := hB0.trans (HBx.out.mono hB0.size)
        have c0 := (hww.cell (cell_lt c0)).trans c0
        have c1 := (hww.cell (cell_lt c1)).trans c1
        have hA := hA.below hww
        have hB := hB.below hww
        have hgne : b ≠ g := by omega
        have HG1 := hid (And.intro g1 gf)
        have HV := hid (show ∀ q, v.ownBlock = some q → wc.heap.size ≤ q ∧ q < wr.heap.size from by obtain ⟨cl0, hr0, _⟩ := HRow.out; exact fun q hq => hr0.lt q hq)
        have HA := hid (fun W (hb : Below wr.heap.size wr W) => (copyInts_far wr A ps c W (hA.below hb) (by omega) hb).mono (fun en w5 hh => And.intro (And.intro ((hh.2.1.cell (cell_lt g1)).trans g1) (And.intro hh.1 hh.2.1)) hh.2.2))
        have HB := hid (fun W (hb : Below wr.heap.size wr W) => (copyInts_far wr B ys d2 W (hB.below hb) (by omega) hb).mono (fun en w5 hh => And.intro (And.intro ((hh.2.1.cell (cell_lt g1)).trans g1) (And.intro hh.1 hh.2.1)) hh.2.2))
        have HKq := hid (fun (w' : World) (hb : Below wc.heap.size wr w') => (show w'.cell? ⟨w.heap.size, 1, none⟩ = some (.slice (some ⟨b, off, none⟩) its.length ic) ∧ w'.cell? ⟨b, off + k * 2, none⟩ = some (.slice A ps.length c) ∧ w'.cell? ⟨b, off + k * 2 + 1, none⟩ = some (.slice B ys.length d2) from ⟨by rw [hb.cell (p := ⟨w.heap.size, 1, none⟩) (by dsimp only; omega)]; exact a1r, by rw [hb.cell (p := ⟨b, off + k * 2, none⟩) (by dsimp only; omega)]; exact c0, by rw [hb.cell (p := ⟨b, off + k * 2 + 1, none⟩) (by dsimp only; omega)]; exact c1⟩))
        have HKs := hid (fun (w' : World) (u : Value) (hb : Below wc.heap.size wr w') => (show (w'.setCell ⟨g, 1, none⟩ u).cell? ⟨w.heap.size, 1, none⟩ = some (.slice (some ⟨b, off, none⟩) its.length ic) ∧ (w'.setCell ⟨g, 1, none⟩ u).cell? ⟨b, off + k * 2, none⟩ = some (.slice A ps.length c) ∧ (w'.setCell ⟨g, 1, none⟩ u).cell? ⟨b, off + k * 2 + 1, none⟩ = some (.slice B ys.length d2) from
          ⟨by rw [World.cell?_setCell_far _ _ _ _ (by dsimp only; omega)]; exact (HKq.out w' hb).1, by rw [World.cell?_setCell_far _ _ _ _ (by dsimp only; omega)]; exact (HKq.out w' hb).2.1, by rw [World.cell?_setCell_far _ _ _ _ (by dsimp only; omega)]; exact (HKq.out w' hb).2.2⟩))
        have HKm := hid (fun (w' : World) (hb : Below wr.heap.size wr w') => HKq.out w' (hb.mono hsz))
        have hr1 : Below wr.heap.size wr wr := Below.refl _ _
        clear hA hB hww a1 g0 g2
        generalize htk : its.take k = pre at *
        go_wp2
        refine wp_region_held_drew (S := (fun w' => w'.cell? ⟨w.heap.size, 1, none⟩ = some (.slice (some ⟨b, off, none⟩) its.length ic) ∧ w'.cell? ⟨b, off + k * 2, none⟩ = some (.slice A ps.length c) ∧ w'.cell? ⟨b, off + k * 2 + 1, none⟩ = some (.slice B ys.length d2))) (by kernel_rfl) (HKm.out _ hr1.drew) (fun hHeld => ?_)
        refine take_d (i := 0) (d := some 18) (v := ?_) rfl rfl (by kernel_rfl) (by kernel_rfl) (by kernel_rfl) (fun _ _ _ h => h) (Or.inl ⟨by first | rfl | (simp [*, Region.wanted, yielded]), ?hya1⟩) (by assumption) ?resta1
        case hya1 => (intro w hSw; (try dsimp only at hSw); go_simp <;> with_reducible rfl)
        try simp only [Act.put, List.setIfInBounds_toArray, List.set_cons_zero, List.set_cons_succ]
        refine take_d (i := 2) (d := some 20) (v := ?_) rfl rfl (by kernel_rfl) (by kernel_rfl) (by kernel_rfl) (fun _ _ _ h => h) (Or.inl ⟨by first | rfl | (simp [*, Region.wanted, yielded]), ?hya2⟩) (by assumption) ?resta2
        case hya2 => (intro w hSw; (try dsimp only at hSw); go_simp <;> with_reducible rfl)
        try simp only [Act.put, List.setIfInBounds_toArray, List.set_cons_zero, List.set_cons_succ]
        refine take_d (i := 3) (d := some 21) (v := ?_) rfl rfl (by kernel_rfl) (by kernel_rfl) (by kernel_rfl) (fun _ _ _ h => h) (Or.inl ⟨by first | rfl | (simp [*, Region.wanted, yielded]), ?hya3⟩) (by assumption) ?resta3
        case hya3 => (intro w hSw; (try dsimp only at hSw); go_simp <;> with_reducible rfl)
        try simp only [Act.put, List.setIfInBounds_toArray, List.set_cons_zero, List.set_cons_succ]
        refine take_d (i := 4) (d := some 22) (v := ?_) rfl rfl (by kernel_rfl) (by kernel_rfl) (by kernel_rfl) (fun _ _ _ h => h) (Or.inl ⟨by first | rfl | (simp [*, Region.wanted, yielded]), ?hya4⟩) (by assumption) ?resta4
        case hya4 => (intro w hSw; (try dsimp only at hSw); go_simp <;> with_reducible rfl)
        try simp only [Act.put, List.setIfInBounds_toArray, List.set_cons_zero, List.set_cons_succ]
        refine take_d (i := 5) (d := some 23) (v := ?_) rfl rfl (by kernel_rfl) (by kernel_rfl) (by kernel_rfl) (fun _ _ _ h => h) (Or.inl ⟨by first | rfl | (simp [*, Region.wanted, yielded]), ?hya5⟩) (by assumption) ?resta5
        case hya5 => (intro w hSw; (try dsimp only at hSw); go_simp <;> with_reducible rfl)
        try simp only [Act.put, List.setIfInBounds_toArray, List.set_cons_zero, List.set_cons_succ]
        refine take_d (i := 6) (d := some 24) (v := ?_) rfl rfl (by kernel_rfl) (by kernel_rfl) (by kernel_rfl) (fun _ _ _ h => h) (Or.inl ⟨by first | rfl | (simp [*, Region.wanted, yielded]), ?hya6⟩) (by assumption) ?resta6
        case hya6 => (intro w hSw; (try dsimp only at hSw); go_simp <;> with_reducible rfl)
        try simp only [Act.put, List.setIfInBounds_toArray, List.set_cons_zero, List.set_cons_succ]
        refine take_d (i := 7) (d := some 25) (v := ?_) rfl rfl (by kernel_rfl) (by kernel_rfl) (by kernel_rfl) (fun _ _ _ h => h) (Or.inl ⟨by first | rfl | (simp [*, Region.wanted, yielded]), ?hya7⟩) (by assumption) ?resta7
        case hya7 => (intro w hSw; (try dsimp only at hSw); go_simp <;> with_reducible rfl)
        try simp only [Act.put, List.setIfInBounds_toArray, List.set_cons_zero, List.set_cons_succ]
        refine take_d (i := 9) (d := some 27) (v := ?_) rfl rfl (by kernel_rfl) (by kernel_rfl) (by kernel_rfl) (fun _ _ _ h => h) (Or.inl ⟨by first | rfl | (simp [*, Region.wanted, yielded]), ?hya8⟩) (by assumption) ?resta8
        case hya8 => (intro w hSw; (try dsimp only at hSw); go_simp <;> with_reducible rfl)
        try simp only [Act.put, List.setIfInBounds_toArray, List.set_cons_zero, List.set_cons_succ]
        refine take_d (i := 10) (d := some 28) (v := ?_) rfl rfl (by kernel_rfl) (by kernel_rfl) (by kernel_rfl) (fun _ _ _ h => h) (Or.inl ⟨by first | rfl | (simp [*, Region.wanted, yielded]), ?hya9⟩) (by assumption) ?resta9
        case hya9 => (intro w hSw; (try dsimp only at hSw); go_simp <;> with_reducible rfl)
        try simp only [Act.put, List.setIfInBounds_toArray, List.set_cons_zero, List.set_cons_succ]
        refine take_d (i := 11) (d := some 29) (v := ?_) rfl rfl (by kernel_rfl) (by kernel_rfl) (by kernel_rfl) (fun _ _ _ h => h) (Or.inl ⟨by first | rfl | (simp [*, Region.wanted, yielded]), ?hya10⟩) (by assumption) ?resta10
        case hya10 => (intro w hSw; (try dsimp only at hSw); go_simp <;> with_reducible rfl)
        try simp only [Act.put, List.setIfInBounds_toArray, List.set_cons_zero, List.set_cons_succ]
        refine take_d (i := 12) (d := some 30) (v := ?_) rfl rfl (by kernel_rfl) (by kernel_rfl) (by kernel_rfl) (fun _ _ _ h => h) (Or.inl ⟨by first | rfl | (simp [*, Region.wanted, yielded]), ?hya11⟩) (by assumption) ?resta11
        case hya11 => (intro w hSw; (try dsimp only at hSw); go_simp <;> with_reducible rfl)
        try simp only [Act.put, List.setIfInBounds_toArray, List.set_cons_zero, List.set_cons_succ]
        refine take_d (i := 13) (d := some 31) (v := ?_) rfl rfl (by kernel_rfl) (by kernel_rfl) (by kernel_rfl) (fun _ _ _ h => h) (Or.inl ⟨by first | rfl | (simp [*, Region.wanted, yielded]), ?hya12⟩) (by assumption) ?resta12
        case hya12 => (intro w hSw; (try dsimp only at hSw); go_simp <;> with_reducible rfl)
        try simp only [Act.put, List.setIfInBounds_toArray, List.set_cons_zero, List.set_cons_succ]
        refine take_d (i := 14) (d := some 32) (v := ?_) rfl rfl (by kernel_rfl) (by kernel_rfl) (by kernel_rfl) (fun _ _ _ h => h) (Or.inl ⟨by first | rfl | (simp [*, Region.wanted, yielded]), ?hya13⟩) (by assumption) ?resta13
        case hya13 => (intro w hSw; (try dsimp only at hSw); go_simp <;> with_reducible rfl)
        try simp only [Act.put, List.setIfInBounds_toArray, List.set_cons_zero, List.set_cons_succ]
        refine wpAnyH_ready (rs := [1, 8]) (by kernel_rfl) (by simp) ?_
        refine AllReadyH.cons (o := _) rfl (fun K hK => ?_) (AllReadyH.cons (o := _) rfl (fun K hK => ?_) AllReadyH.nil)
        · go_simp
          go_wp2_with fail
          refine hK.out _ _ (HKm.out _ (by repeat (first | exact hr1 | exact pB | exact pA | apply Below.drew | (refine Below.alloc ?_ (by first | exact Below.size (by assumption) | omega | (simp; done) | (simp; omega)) _)))) (fun hHeld => ?_)
          clear hK K
          try simp only [Act.put, List.setIfInBounds_toArray, List.set_cons_zero, List.set_cons_succ]
          refine wpAnyH_ready (rs := [8]) (by kernel_rfl) (by simp) ?_
          refine AllReadyH.cons (o := _) rfl (fun K hK => ?_) AllReadyH.nil
          go_simp
          refine (HA.out _ (by repeat (first | exact hr1 | exact pB | exact pA | apply Below.drew | (refine Below.alloc ?_ (by first | exact Below.size (by assumption) | omega | (simp; done) | (simp; omega)) _)))).mono ?_
          rintro en wA ⟨⟨vA, hA, pA⟩, A5, c5, rfl, IA⟩
          have zA : g < wA.heap.size := cell_lt vA
          go_wp2_with fail
          refine hK.out _ _ (HKm.out _ pA) (fun hHeld => ?_)
          clear hK K
          try simp only [Act.put, List.setIfInBounds_toArray, List.set_cons_zero, List.set_cons_succ]
          refine wpAnyH_ready (rs := [15]) (by kernel_rfl) (by simp) ?_
          refine AllReadyH.cons (o := _) rfl (fun K hK => ?_) AllReadyH.nil
          go_simp
          refine (HB.out _ (by repeat (first | exact hr1 | exact pB | exact pA | apply Below.drew | (refine Below.alloc ?_ (by first | exact Below.size (by assumption) | omega | (simp; done) | (simp; omega)) _)))).mono ?_
          rintro en wB ⟨⟨vB, hB, pB⟩, B5, d5, rfl, IB⟩
          have zB : g < wB.heap.size := cell_lt vB
          go_wp2_with fail
          refine hK.out _ _ (HKm.out _ pB) (fun hHeld => ?_)
          clear hK K
          try simp only [Act.put, List.setIfInBounds_toArray, List.set_cons_zero, List.set_cons_succ]
          refine take_d (i := 16) (d := some 34) (v := ?_) rfl rfl (by kernel_rfl) (by kernel_rfl) (by kernel_rfl) (fun _ _ _ h => h) (Or.inl ⟨by first | rfl | (simp [*, Region.wanted, yielded]), ?hya14⟩) (by assumption) ?resta14
          case hya14 => (intro w hSw; (try dsimp only at hSw); go_simp <;> with_reducible rfl)
          try simp only [Act.put, List.setIfInBounds_toArray, List.set_cons_zero, List.set_cons_succ]
          refine wpAnyH_ready (rs := [17]) (by kernel_rfl) (by simp) ?_
          refine AllReadyH.cons (o := _) rfl (fun K hK => ?_) AllReadyH.nil
          go_simp
          go_wp2_with fail
          refine hK.out _ _ (HKm.out _ (by repeat (first | exact hr1 | exact pB | exact pA | apply Below.drew | (refine Below.alloc ?_ (by first | exact Below.size (by assumption) | omega | (simp; done) | (simp; omega)) _)))) (fun hHeld => ?_)
          clear hK K
          try simp only [Act.put, List.setIfInBounds_toArray, List.set_cons_zero, List.set_cons_succ]
          refine wpAnyH_ready (rs := [18]) (by kernel_rfl) (by simp) ?_
          refine AllReadyH.cons (o := _) rfl (fun K hK => ?_) AllReadyH.nil
          obtain ⟨cl, hcl, hrow, HC⟩ := HRow.out.rows (wx := wB.alloc (.cells #[.slice A5 ps.length c5, .slice B5 ys.length d5] 76)) (pB.alloc pB.size _)
          have OA : OwnSet (wB.alloc (.cells #[.slice A5 ps.length c5, .slice B5 ys.length d5] 76)) wc.heap.size v A5 ps := ⟨(IA.out.1.below hB).below ((Below.refl _ _).alloc (Nat.le_refl _) _), far_apart IA.out.2 (fun q hq => (HV.out q hq).2), IA.out.2.mono hsz⟩
          have OB : OwnSet (wB.alloc (.cells #[.slice A5 ps.length c5, .slice B5 ys.length d5] 76)) wc.heap.size v B5 ys := ⟨(IB.out.1).below ((Below.refl _ _).alloc (Nat.le_refl _) _), far_apart IB.out.2 (fun q hq => (HV.out q hq).2), IB.out.2.mono hsz⟩
          refine step_append_lies _ rfl _ _ 22 rfl wc.heap.size 76 i0 (.agg #[.slice none 0 0, .slice none 0 0]) 2 48 Try.underlying22 hinf hz0 hz1 hz2 rfl (by decide) v pre.length cl (by rfl) (by exact hrow) ⟨wB.heap.size, 0, none⟩ 1 1 [.slice A5 ps.length c5, .slice B5 ys.length d5] (by rfl) rfl (World.news_of_block (cs := #[.slice A5 ps.length c5, .slice B5 ys.length d5]) (t := 76) (fr := (0, 0)) (heap_alloc_new wB _)) (by simp [Value.oneCell']) (by decide) (by unfold maxLen; omega) (by omega) (by have := pB.size; simp; omega) _ rfl ?_
          intro g4 cap4 w4 hown4 hgrow4 hat4 hlt4
          have p4 : Below wc.heap.size wr w4 := ((pB.alloc pB.size _).mono hsz).grown hgrow4 (by have := pB.size; simp; omega) (fun q hq => (HV.out q hq).1)
          have HN := hid (ItemR.push hcl (by exact HC.out) OA OB hown4 hgrow4 (own_same_or hat4))
          have g14 := (p4.cell (p := ⟨g, 1, none⟩) hgx).trans HG1.out.1
          have f14 := (p4.frozen (p := ⟨g, 1, none⟩) hgx).trans HG1.out.2
          clear hown4 hgrow4 hat4 hcl hrow HC OA OB
          refine hK.out _ _ (HKq.out _ p4) (fun hHeld => ?_)
          clear hK K
          try simp only [Act.put, List.setIfInBounds_toArray, List.set_cons_zero, List.set_cons_succ]
          refine take_d (i := 19) (d := some 37) (v := ?_) rfl rfl (by kernel_rfl) (by kernel_rfl) (by kernel_rfl) (fun _ _ _ h => h) (Or.inl ⟨by first | rfl | (simp [*, Region.wanted, yielded]), ?hya15⟩) (by assumption) ?resta15
          case hya15 => (intro w hSw; (try dsimp only at hSw); go_simp <;> with_reducible rfl)
          try simp only [Act.put, List.setIfInBounds_toArray, List.set_cons_zero, List.set_cons_succ]
          refine wpAnyH_ready (rs := [20]) (by kernel_rfl) (by simp) ?_
          refine AllReadyH.cons (o := _) rfl (fun K hK => ?_) AllReadyH.nil
          go_simp
          go_wp2_with fail
          refine hK.out _ _ (HKs.out _ _ p4) (fun hHeld => ?_)
          clear hK K
          try simp only [Act.put, List.setIfInBounds_toArray, List.set_cons_zero, List.set_cons_succ]
          refine wpAnyH_done (by kernel_rfl) ?_ _
          go_simp
          go_wp2
          go_roundw
          case rel => exact ⟨k + 1, _, by omega, by go_num, ⟨by rw [World.cell?_setCell_other _ _ _ _ (by simp)]; exact (p4.cell (p := ⟨g, 0, none⟩) hgx).trans HG.out.1, World.cell?_setCell_same _ _ _ g14, by rw [World.cell?_setCell_other _ _ _ _ (by simp)]; exact (p4.cell (p := ⟨g, 2, none⟩) hgx).trans HG.out.2.2.1, by go_simp⟩, by rw [HTk.out, ← hkl]; exact HN.out.setCell _ _ hgx, (HK.out.below p4).setCell _ _ (.inr rfl), (HBx.out.trans (p4.mono (by omega))).setCell (by exact hg2) _, by have := p4.size; simp; omega⟩
          case measure => simp [intOf]; omega
        · go_simp
          refine (HA.out _ (by repeat (first | exact hr1 | exact pB | exact pA | apply Below.drew | (refine Below.alloc ?_ (by first | exact Below.size (by assumption) | omega | (simp; done) | (simp; omega)) _)))).mono ?_
          rintro en wA ⟨⟨vA, hA, pA⟩, A5, c5, rfl, IA⟩
          have zA : g < wA.heap.size := cell_lt vA
          go_wp2_with fail
          refine hK.out _ _ (HKm.out _ pA) (fun hHeld => ?_)
          clear hK K
          try simp only [Act.put, List.setIfInBounds_toArray, List.set_cons_zero, List.set_cons_succ]
          refine wpAnyH_ready (rs := [1, 15]) (by kernel_rfl) (by simp) ?_
          refine AllReadyH.cons (o := _) rfl (fun K hK => ?_) (AllReadyH.cons (o := _) rfl (fun K hK => ?_) AllReadyH.nil)
          · go_simp
            go_wp2_with fail
            refine hK.out _ _ (HKm.out _ (by repeat (first | exact hr1 | exact pB | exact pA | apply Below.drew | (refine Below.alloc ?_ (by first | exact Below.size (by assumption) | omega | (simp; done) | (simp; omega)) _)))) (fun hHeld => ?_)
            clear hK K
            try simp only [Act.put, List.setIfInBounds_toArray, List.set_cons_zero, List.set_cons_succ]
            refine wpAnyH_ready (rs := [15]) (by kernel_rfl) (by simp) ?_
            refine AllReadyH.cons (o := _) rfl (fun K hK => ?_) AllReadyH.nil
            go_simp
            refine (HB.out _ (by repeat (first | exact hr1 | exact pB | exact pA | apply Below.drew | (refine Below.alloc ?_ (by first | exact Below.size (by assumption) | omega | (simp; done) | (simp; omega)) _)))).mono ?_
            rintro en wB ⟨⟨vB, hB, pB⟩, B5, d5, rfl, IB⟩
            have zB : g < wB.heap.size := cell_lt vB
            go_wp2_with fail
            refine hK.out _ _ (HKm.out _ pB) (fun hHeld => ?_)
            clear hK K
            try simp only [Act.put, List.setIfInBounds_toArray, List.set_cons_zero, List.set_cons_succ]
            refine take_d (i := 16) (d := some 34) (v := ?_) rfl rfl (by kernel_rfl) (by kernel_rfl) (by kernel_rfl) (fun _ _ _ h => h) (Or.inl ⟨by first | rfl | (simp [*, Region.wanted, yielded]), ?hya16⟩) (by assumption) ?resta16
            case hya16 => (intro w hSw; (try dsimp only at hSw); go_simp <;> with_reducible rfl)
            try simp only [Act.put, List.setIfInBounds_toArray, List.set_cons_zero, List.set_cons_succ]
            refine wpAnyH_ready (rs := [17]) (by kernel_rfl) (by simp) ?_
            refine AllReadyH.cons (o := _) rfl (fun K hK => ?_) AllReadyH.nil
            go_simp
            go_wp2_with fail
            refine hK.out _ _ (HKm.out _ (by repeat (first | exact hr1 | exact pB | exact pA | apply Below.drew | (refine Below.alloc ?_ (by first | exact Below.size (by assumption) | omega | (simp; done) | (simp; omega)) _)))) (fun hHeld => ?_)
            clear hK K
            try simp only [Act.put, List.setIfInBounds_toArray, List.set_cons_zero, List.set_cons_succ]
            refine wpAnyH_ready (rs := [18]) (by kernel_rfl) (by simp) ?_
            refine AllReadyH.cons (o := _) rfl (fun K hK => ?_) AllReadyH.nil
            obtain ⟨cl, hcl, hrow, HC⟩ := HRow.out.rows (wx := wB.alloc (.cells #[.slice A5 ps.length c5, .slice B5 ys.length d5] 76)) (pB.alloc pB.size _)
            have OA : OwnSet (wB.alloc (.cells #[.slice A5 ps.length c5, .slice B5 ys.length d5] 76)) wc.heap.size v A5 ps := ⟨(IA.out.1.below hB).below ((Below.refl _ _).alloc (Nat.le_refl _) _), far_apart IA.out.2 (fun q hq => (HV.out q hq).2), IA.out.2.mono hsz⟩
            have OB : OwnSet (wB.alloc (.cells #[.slice A5 ps.length c5, .slice B5 ys.length d5] 76)) wc.heap.size v B5 ys := ⟨(IB.out.1).below ((Below.refl _ _).alloc (Nat.le_refl _) _), far_apart IB.out.2 (fun q hq => (HV.out q hq).2), IB.out.2.mono hsz⟩
            refine step_append_lies _ rfl _ _ 22 rfl wc.heap.size 76 i0 (.agg #[.slice none 0 0, .slice none 0 0]) 2 48 Try.underlying22 hinf hz0 hz1 hz2 rfl (by decide) v pre.length cl (by rfl) (by exact hrow) ⟨wB.heap.size, 0, none⟩ 1 1 [.slice A5 ps.length c5, .slice B5 ys.length d5] (by rfl) rfl (World.news_of_block (cs := #[.slice A5 ps.length c5, .slice B5 ys.length d5]) (t := 76) (fr := (0, 0)) (heap_alloc_new wB _)) (by simp [Value.oneCell']) (by decide) (by unfold maxLen; omega) (by omega) (by have := pB.size; simp; omega) _ rfl ?_
            intro g4 cap4 w4 hown4 hgrow4 hat4 hlt4
            have p4 : Below wc.heap.size wr w4 := ((pB.alloc pB.size _).mono hsz).grown hgrow4 (by have := pB.size; simp; omega) (fun q hq => (HV.out q hq).1)
            have HN := hid (ItemR.push hcl (by exact HC.out) OA OB hown4 hgrow4 (own_same_or hat4))
            have g14 := (p4.cell (p := ⟨g, 1, none⟩) hgx).trans HG1.out.1
            have f14 := (p4.frozen (p := ⟨g, 1, none⟩) hgx).trans HG1.out.2
            clear hown4 hgrow4 hat4 hcl hrow HC OA OB
            refine hK.out _ _ (HKq.out _ p4) (fun hHeld => ?_)
            clear hK K
            try simp only [Act.put, List.setIfInBounds_toArray, List.set_cons_zero, List.set_cons_succ]
            refine take_d (i := 19) (d := some 37) (v := ?_) rfl rfl (by kernel_rfl) (by kernel_rfl) (by kernel_rfl) (fun _ _ _ h => h) (Or.inl ⟨by first | rfl | (simp [*, Region.wanted, yielded]), ?hya17⟩) (by assumption) ?resta17
            case hya17 => (intro w hSw; (try dsimp only at hSw); go_simp <;> with_reducible rfl)
            try simp only [Act.put, List.setIfInBounds_toArray, List.set_cons_zero, List.set_cons_succ]
            refine wpAnyH_ready (rs := [20]) (by kernel_rfl) (by simp) ?_
            refine AllReadyH.cons (o := _) rfl (fun K hK => ?_) AllReadyH.nil
            go_simp
            go_wp2_with fail
            refine hK.out _ _ (HKs.out _ _ p4) (fun hHeld => ?_)
            clear hK K
            try simp only [Act.put, List.setIfInBounds_toArray, List.set_cons_zero, List.set_cons_succ]
            refine wpAnyH_done (by kernel_rfl) ?_ _
            go_simp
            go_wp2
            go_roundw
            case rel => exact ⟨k + 1, _, by omega, by go_num, ⟨by rw [World.cell?_setCell_other _ _ _ _ (by simp)]; exact (p4.cell (p := ⟨g, 0, none⟩) hgx).trans HG.out.1, World.cell?_setCell_same _ _ _ g14, by rw [World.cell?_setCell_other _ _ _ _ (by simp)]; exact (p4.cell (p := ⟨g, 2, none⟩) hgx).trans HG.out.2.2.1, by go_simp⟩, by rw [HTk.out, ← hkl]; exact HN.out.setCell _ _ hgx, (HK.out.below p4).setCell _ _ (.inr rfl), (HBx.out.trans (p4.mono (by omega))).setCell (by exact hg2) _, by have := p4.size; simp; omega⟩
            case measure => simp [intOf]; omega
          · go_simp
            refine (HB.out _ (by repeat (first | exact hr1 | exact pB | exact pA | apply Below.drew | (refine Below.alloc ?_ (by first | exact Below.size (by assumption) | omega | (simp; done) | (simp; omega)) _)))).mono ?_
            rintro en wB ⟨⟨vB, hB, pB⟩, B5, d5, rfl, IB⟩
            have zB : g < wB.heap.size := cell_lt vB
            go_wp2_with fail
            refine hK.out _ _ (HKm.out _ pB) (fun hHeld => ?_)
            clear hK K
            try simp only [Act.put, List.setIfInBounds_toArray, List.set_cons_zero, List.set_cons_succ]
            refine take_d (i := 16) (d := some 34) (v := ?_) rfl rfl (by kernel_rfl) (by kernel_rfl) (by kernel_rfl) (fun _ _ _ h => h) (Or.inl ⟨by first | rfl | (simp [*, Region.wanted, yielded]), ?hya18⟩) (by assumption) ?resta18
            case hya18 => (intro w hSw; (try dsimp only at hSw); go_simp <;> with_reducible rfl)
            try simp only [Act.put, List.setIfInBounds_toArray, List.set_cons_zero, List.set_cons_succ]
            refine wpAnyH_ready (rs := [1, 17]) (by kernel_rfl) (by simp) ?_
            refine AllReadyH.cons (o := _) rfl (fun K hK => ?_) (AllReadyH.cons (o := _) rfl (fun K hK => ?_) AllReadyH.nil)
            · go_simp
              go_wp2_with fail
              refine hK.out _ _ (HKm.out _ (by repeat (first | exact hr1 | exact pB | exact pA | apply Below.drew | (refine Below.alloc ?_ (by first | exact Below.size (by assumption) | omega | (simp; done) | (simp; omega)) _)))) (fun hHeld => ?_)
              clear hK K
              try simp only [Act.put, List.setIfInBounds_toArray, List.set_cons_zero, List.set_cons_succ]
              refine wpAnyH_ready (rs := [17]) (by kernel_rfl) (by simp) ?_
              refine AllReadyH.cons (o := _) rfl (fun K hK => ?_) AllReadyH.nil
              go_simp
              go_wp2_with fail
              refine hK.out _ _ (HKm.out _ (by repeat (first | exact hr1 | exact pB | exact pA | apply Below.drew | (refine Below.alloc ?_ (by first | exact Below.size (by assumption) | omega | (simp; done) | (simp; omega)) _)))) (fun hHeld => ?_)
              clear hK K
              try simp only [Act.put, List.setIfInBounds_toArray, List.set_cons_zero, List.set_cons_succ]
              refine wpAnyH_ready (rs := [18]) (by kernel_rfl) (by simp) ?_
              refine AllReadyH.cons (o := _) rfl (fun K hK => ?_) AllReadyH.nil
              obtain ⟨cl, hcl, hrow, HC⟩ := HRow.out.rows (wx := wB.alloc (.cells #[.slice A5 ps.length c5, .slice B5 ys.length d5] 76)) (pB.alloc pB.size _)
              have OA : OwnSet (wB.alloc (.cells #[.slice A5 ps.length c5, .slice B5 ys.length d5] 76)) wc.heap.size v A5 ps := ⟨(IA.out.1.below hB).below ((Below.refl _ _).alloc (Nat.le_refl _) _), far_apart IA.out.2 (fun q hq => (HV.out q hq).2), IA.out.2.mono hsz⟩
              have OB : OwnSet (wB.alloc (.cells #[.slice A5 ps.length c5, .slice B5 ys.length d5] 76)) wc.heap.size v B5 ys := ⟨(IB.out.1).below ((Below.refl _ _).alloc (Nat.le_refl _) _), far_apart IB.out.2 (fun q hq => (HV.out q hq).2), IB.out.2.mono hsz⟩
              refine step_append_lies _ rfl _ _ 22 rfl wc.heap.size 76 i0 (.agg #[.slice none 0 0, .slice none 0 0]) 2 48 Try.underlying22 hinf hz0 hz1 hz2 rfl (by decide) v pre.length cl (by rfl) (by exact hrow) ⟨wB.heap.size, 0, none⟩ 1 1 [.slice A5 ps.length c5, .slice B5 ys.length d5] (by rfl) rfl (World.news_of_block (cs := #[.slice A5 ps.length c5, .slice B5 ys.length d5]) (t := 76) (fr := (0, 0)) (heap_alloc_new wB _)) (by simp [Value.oneCell']) (by decide) (by unfold maxLen; omega) (by omega) (by have := pB.size; simp; omega) _ rfl ?_
              intro g4 cap4 w4 hown4 hgrow4 hat4 hlt4
              have p4 : Below wc.heap.size wr w4 := ((pB.alloc pB.size _).mono hsz).grown hgrow4 (by have := pB.size; simp; omega) (fun q hq => (HV.out q hq).1)
              have HN := hid (ItemR.push hcl (by exact HC.out) OA OB hown4 hgrow4 (own_same_or hat4))
              have g14 := (p4.cell (p := ⟨g, 1, none⟩) hgx).trans HG1.out.1
              have f14 := (p4.frozen (p := ⟨g, 1, none⟩) hgx).trans HG1.out.2
              clear hown4 hgrow4 hat4 hcl hrow HC OA OB
              refine hK.out _ _ (HKq.out _ p4) (fun hHeld => ?_)
              clear hK K
              try simp only [Act.put, List.setIfInBounds_toArray, List.set_cons_zero, List.set_cons_succ]
              refine take_d (i := 19) (d := some 37) (v := ?_) rfl rfl (by kernel_rfl) (by kernel_rfl) (by kernel_rfl) (fun _ _ _ h => h) (Or.inl ⟨by first | rfl | (simp [*, Region.wanted, yielded]), ?hya19⟩) (by assumption) ?resta19
              case hya19 => (intro w hSw; (try dsimp only at hSw); go_simp <;> with_reducible rfl)
              try simp only [Act.put, List.setIfInBounds_toArray, List.set_cons_zero, List.set_cons_succ]
              refine wpAnyH_ready (rs := [20]) (by kernel_rfl) (by simp) ?_
              refine AllReadyH.cons (o := _) rfl (fun K hK => ?_) AllReadyH.nil
              go_simp
              go_wp2_with fail
              refine hK.out _ _ (HKs.out _ _ p4) (fun hHeld => ?_)
              clear hK K
              try simp only [Act.put, List.setIfInBounds_toArray, List.set_cons_zero, List.set_cons_succ]
              refine wpAnyH_done (by kernel_rfl) ?_ _
              go_simp
              go_wp2
              go_roundw
              case rel => exact ⟨k + 1, _, by omega, by go_num, ⟨by rw [World.cell?_setCell_other _ _ _ _ (by simp)]; exact (p4.cell (p := ⟨g, 0, none⟩) hgx).trans HG.out.1, World.cell?_setCell_same _ _ _ g14, by rw [World.cell?_setCell_other _ _ _ _ (by simp)]; exact (p4.cell (p := ⟨g, 2, none⟩) hgx).trans HG.out.2.2.1, by go_simp⟩, by rw [HTk.out, ← hkl]; exact HN.out.setCell _ _ hgx, (HK.out.below p4).setCell _ _ (.inr rfl), (HBx.out.trans (p4.mono (by omega))).setCell (by exact hg2) _, by have := p4.size; simp; omega⟩
              case measure => simp [intOf]; omega
            · go_simp
              go_wp2_with fail
              refine hK.out _ _ (HKm.out _ (by repeat (first | exact hr1 | exact pB | exact pA | apply Below.drew | (refine Below.alloc ?_ (by first | exact Below.size (by assumption) | omega | (simp; done) | (simp; omega)) _)))) (fun hHeld => ?_)
              clear hK K
              try simp only [Act.put, List.setIfInBounds_toArray, List.set_cons_zero, List.set_cons_succ]
              refine wpAnyH_ready (rs := [1]) (by kernel_rfl) (by simp) ?_
              refine AllReadyH.cons (o := _) rfl (fun K hK => ?_) AllReadyH.nil
              go_simp
              go_wp2_with fail
              refine hK.out _ _ (HKm.out _ (by repeat (first | exact hr1 | exact pB | exact pA | apply Below.drew | (refine Below.alloc ?_ (by first | exact Below.size (by assumption) | omega | (simp; done) | (simp; omega)) _)))) (fun hHeld => ?_)
              clear hK K
              try simp only [Act.put, List.setIfInBounds_toArray, List.set_cons_zero, List.set_cons_succ]
              refine wpAnyH_ready (rs := [18]) (by kernel_rfl) (by simp) ?_
              refine AllReadyH.cons (o := _) rfl (fun K hK => ?_) AllReadyH.nil
              obtain ⟨cl, hcl, hrow, HC⟩ := HRow.out.rows (wx := wB.alloc (.cells #[.slice A5 ps.length c5, .slice B5 ys.length d5] 76)) (pB.alloc pB.size _)
              have OA : OwnSet (wB.alloc (.cells #[.slice A5 ps.length c5, .slice B5 ys.length d5] 76)) wc.heap.size v A5 ps := ⟨(IA.out.1.below hB).below ((Below.refl _ _).alloc (Nat.le_refl _) _), far_apart IA.out.2 (fun q hq => (HV.out q hq).2), IA.out.2.mono hsz⟩
              have OB : OwnSet (wB.alloc (.cells #[.slice A5 ps.length c5, .slice B5 ys.length d5] 76)) wc.heap.size v B5 ys := ⟨(IB.out.1).below ((Below.refl _ _).alloc (Nat.le_refl _) _), far_apart IB.out.2 (fun q hq => (HV.out q hq).2), IB.out.2.mono hsz⟩
              refine step_append_lies _ rfl _ _ 22 rfl wc.heap.size 76 i0 (.agg #[.slice none 0 0, .slice none 0 0]) 2 48 Try.underlying22 hinf hz0 hz1 hz2 rfl (by decide) v pre.length cl (by rfl) (by exact hrow) ⟨wB.heap.size, 0, none⟩ 1 1 [.slice A5 ps.length c5, .slice B5 ys.length d5] (by rfl) rfl (World.news_of_block (cs := #[.slice A5 ps.length c5, .slice B5 ys.length d5]) (t := 76) (fr := (0, 0)) (heap_alloc_new wB _)) (by simp [Value.oneCell']) (by decide) (by unfold maxLen; omega) (by omega) (by have := pB.size; simp; omega) _ rfl ?_
              intro g4 cap4 w4 hown4 hgrow4 hat4 hlt4
              have p4 : Below wc.heap.size wr w4 := ((pB.alloc pB.size _).mono hsz).grown hgrow4 (by have := pB.size; simp; omega) (fun q hq => (HV.out q hq).1)
              have HN := hid (ItemR.push hcl (by exact HC.out) OA OB hown4 hgrow4 (own_same_or hat4))
              have g14 := (p4.cell (p := ⟨g, 1, none⟩) hgx).trans HG1.out.1
              have f14 := (p4.frozen (p := ⟨g, 1, none⟩) hgx).trans HG1.out.2
              clear hown4 hgrow4 hat4 hcl hrow HC OA OB
              refine hK.out _ _ (HKq.out _ p4) (fun hHeld => ?_)
              clear hK K
              try simp only [Act.put, List.setIfInBounds_toArray, List.set_cons_zero, List.set_cons_succ]
              refine take_d (i := 19) (d := some 37) (v := ?_) rfl rfl (by kernel_rfl) (by kernel_rfl) (by kernel_rfl) (fun _ _ _ h => h) (Or.inl ⟨by first | rfl | (simp [*, Region.wanted, yielded]), ?hya20⟩) (by assumption) ?resta20
              case hya20 => (intro w hSw; (try dsimp only at hSw); go_simp <;> with_reducible rfl)
              try simp only [Act.put, List.setIfInBounds_toArray, List.set_cons_zero, List.set_cons_succ]
              refine wpAnyH_ready (rs := [20]) (by kernel_rfl) (by simp) ?_
              refine AllReadyH.cons (o := _) rfl (fun K hK => ?_) AllReadyH.nil
              go_simp
              go_wp2_with fail
              refine hK.out _ _ (HKs.out _ _ p4) (fun hHeld => ?_)
              clear hK K
              try simp only [Act.put, List.setIfInBounds_toArray, List.set_cons_zero, List.set_cons_succ]
              refine wpAnyH_done (by kernel_rfl) ?_ _
              go_simp
              go_wp2
              go_roundw
              case rel => exact ⟨k + 1, _, by omega, by go_num, ⟨by rw [World.cell?_setCell_other _ _ _ _ (by simp)]; exact (p4.cell (p := ⟨g, 0, none⟩) hgx).trans HG.out.1, World.cell?_setCell_same _ _ _ g14, by rw [World.cell?_setCell_other _ _ _ _ (by simp)]; exact (p4.cell (p := ⟨g, 2, none⟩) hgx).trans HG.out.2.2.1, by go_simp⟩, by rw [HTk.out, ← hkl]; exact HN.out.setCell _ _ hgx, (HK.out.below p4).setCell _ _ (.inr rfl), (HBx.out.trans (p4.mono (by omega))).setCell (by exact hg2) _, by have := p4.size; simp; omega⟩
              case measure => simp [intOf]; omega
      · obtain rfl : k = its.length := by omega
        rw [List.take_length] at HRow
        obtain ⟨A, c, rfl, _⟩ := HRow.out.items hlI
        have HIw := hid (((HRow.out.setCell ⟨w.heap.size + 1, 0, none⟩ (.int .i64 P) (by dsimp only; omega)).setCell ⟨w.heap.size + 1, 1, none⟩ (.slice A its.length c) (by dsimp only; omega)).setCell ⟨w.heap.size + 1, 2, none⟩ (.slice R rls.length d) (by dsimp only; omega))
        have HRf := hid (show ∀ w'', KeepFrom w2.heap.size g wc w'' → RulesAt w'' R rls ∧ rls.length ≤ d from HRF.out)
        have hsz' := HBx.out.size
        obtain ⟨⟨q0, q1, q2⟩, k0, k1, k2⟩ := HQ.out
        have r0 := (HBx.out.cell (cell_lt q0)).trans q0
        have r1 := (HBx.out.cell (cell_lt q1)).trans q1
        have r2 := (HBx.out.cell (cell_lt q2)).trans q2
        have z0 := (HBx.out.frozen (cell_lt q0)).trans k0
        have z1 := (HBx.out.frozen (cell_lt q1)).trans k1
        have z2 := (HBx.out.frozen (cell_lt q2)).trans k2
        have hn : w.heap.size + 1 < w2.heap.size := by omega
        clear q0 q1 q2 k0 k1 k2 HQ a1
        go_wp2
        have HZ := hid ((((hB0.trans (HBx.out.mono hB0.size)).setCell (p := ⟨w.heap.size + 1, 0, none⟩) (Nat.le_succ _) (.int .i64 P)).setCell (p := ⟨w.heap.size + 1, 1, none⟩) (Nat.le_succ _) (.slice A its.length c)).setCell (p := ⟨w.heap.size + 1, 2, none⟩) (Nat.le_succ _) (.slice R rls.length d))
        refine bodyPost_ret (v := .agg #[.int .i64 P, .slice A its.length c, .slice R rls.length d]) (by simp [results, Try.results16, go_sem, r0, r1, r2]) rfl ⟨HZ.out, A, c, R, d, g, wc.heap.size, rfl, ⟨by omega, hgx, by simp; exact hsz, HIw.out, fun w'' hk => HRf.out w'' (fun b off v hb hg h0 => ?_)⟩, hP.1, hP.2⟩
        have hk1 := ((HK.out.setCell ⟨w.heap.size + 1, 0, none⟩ (.int .i64 P) (.inl hn)).setCell ⟨w.heap.size + 1, 1, none⟩ (.slice A its.length c) (.inl hn)).setCell ⟨w.heap.size + 1, 2, none⟩ (.slice R rls.length d) (.inl hn)
        exact hk b off v (by omega) (cell_lt h0) hg (hk1 b off v hb hg h0)
set_option maxHeartbeats 1000000 in
theorem copyBk_any (P : Int) (ia : Option Addr) (its : List ItemL) (ic : Nat) (ra : Option Addr) (rls : List RuleL) (rc : Nat) (w : World) (h : BookAt w P ia its ra rls) (hli : its.length ≤ 1000) (hlit : ∀ i, i < its.length → (its[i]?.getD ([], [])).1.length ≤ 1000 ∧ (its[i]?.getD ([], [])).2.length ≤ 1000) (hl : rls.length ≤ 1000) (hls : ∀ i, i < rls.length → (rls[i]?.getD ([], 0)).1.length ≤ 1000) :
  Calls Try.prog 16 #[.agg #[.int .i64 P, .slice ia its.length ic, .slice ra rls.length rc]] w (fun en w' => Below w.heap.size w w' ∧ ∃ A c R d, en = .returned (.agg #[.int .i64 P, .slice A its.length c, .slice R rls.length d]) ∧ BookAt w' P A its R rls) := by
  refine (copyBkF_any P ia its ic ra rls rc w h hli hlit hl hls).mono ?_
  rintro e w' ⟨hb, A, c, R, d, g, m, he, hc, h1, h2⟩
  obtain ⟨A', c', hv, hi⟩ := hc.items.items (by omega)
  cases hv
  exact ⟨hb, A, c, R, d, he, hi w' (SameAbove.refl _ _), (hc.rules w' (fun _ _ _ _ _ _ h => h)).1, h1, h2⟩
end Go.Proofs.Ytdgleicpcjfnoaa
