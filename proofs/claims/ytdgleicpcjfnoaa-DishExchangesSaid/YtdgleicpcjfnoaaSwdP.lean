/- swapped of the document (written by gen_swd.py). -/
import Derived.Test.YtdgleicpcjfnoaaExchM
import Derived.Test.YtdgleicpcjfnoaaRCopyD
import Derived.Test.YtdgleicpcjfnoaaRBools
import Derived.Test.YtdgleicpcjfnoaaRBase
import Derived.Test.YtdgleicpcjfnoaaReduM
import Derived.RegionTactic
import Derived.ChangeAlike
import Derived.Deep.QuietTactic
import Derived.BigQuiet
/- What swapped of the document wants: plain facts, and a row of items of the call's own in which a list is another one. -/
set_option linter.unusedVariables false
namespace Go.Proofs.Ytdgleicpcjfnoaa
open Go.RowKit

theorem exP_id (x : Int) (ps : List Int) (hs : ps.Pairwise (· < ·)) (hb : ∀ y ∈ ps, 0 ≤ y ∧ y < 64) (hm : x ∈ ps) : exP (x, x) ps = ps := by
  refine asc_ext _ _ (bitsTo_sorted _ _) hs (fun y => ?_)
  rw [exP_mem (x, x) ps hb (hb x hm)]
  constructor
  · rintro (rfl | ⟨h, _⟩)
    · exact hm
    · exact h
  · intro h
    by_cases e : y = x
    · exact .inl e
    · exact .inr ⟨h, e⟩
theorem exTo_id {P : Int} {x : Int} {its l : List ItemL} {j : Nat} (hj : j < l.length) (hl : l.length ≤ 64) (hi : ItOk P l) (h : exTo (x, x) its j = some l) : exTo (x, x) its (j + 1) = some l := by
  rw [exTo, h, Option.bind_some]
  obtain ⟨_, m2, _⟩ := hi j hj
  rw [isSetFrom_iff] at m2
  split
  · rename_i hm
    rw [memB_iff] at hm
    have := m2.2 _ hm
    rw [if_neg (by dsimp only at this ⊢; omega)]
    rw [exP_id x _ m2.1 (fun y hy => by have := m2.2 y hy; omega) hm]
    have e : l.set j ((l[j]?.getD ([], [])).1, (l[j]?.getD ([], [])).2) = l := by
      rw [List.getElem?_eq_getElem hj]
      exact List.set_getElem_self hj
    rw [e]
  · rfl
/-- The marks in which one is taken away and one is set. -/
theorem bcells_swap (ps : List Int) (n i1 i2 : Nat) (h1 : i1 < n) (h2 : i2 < n) (hne : i1 ≠ i2) (hps : ∀ x ∈ ps, 0 ≤ x) :
    (((bcells (maskL ps) n).set i1 (.bool false)).set i2 (.bool true)) = bcells (maskL ((i2 : Int) :: ps.filter (fun x => decide (x ≠ (i1 : Int))))) n := by
  apply List.ext_getElem?
  intro i
  by_cases hi : i < n
  · rw [bcells_at _ n i hi]
    have hl : (bcells (maskL ps) n).length = n := bcells_len _ _
    by_cases e2 : i = i2
    · subst e2
      rw [List.getElem?_set_self (by rw [List.length_set]; omega)]
      congr 2
      rw [testBit_maskL]
      simp
    · rw [List.getElem?_set_ne (fun h => e2 h.symm)]
      by_cases e1 : i = i1
      · subst e1
        rw [List.getElem?_set_self (by omega)]
        congr 2
        rw [testBit_maskL, eq_comm, decide_eq_false_iff_not]
        rintro ⟨x, hx, hxi⟩
        rw [List.mem_cons, List.mem_filter] at hx
        rcases hx with rfl | ⟨hx, hxn⟩
        · omega
        · have := hps x hx
          have : x ≠ (i : Int) := by simpa using hxn
          omega
      · rw [List.getElem?_set_ne (fun h => e1 h.symm), bcells_at _ n i hi]
        congr 2
        rw [testBit_maskL, testBit_maskL, decide_eq_decide]
        constructor
        · rintro ⟨x, hx, hxi⟩
          have := hps x hx
          exact ⟨x, by rw [List.mem_cons, List.mem_filter]; exact .inr ⟨hx, by simp; omega⟩, hxi⟩
        · rintro ⟨x, hx, hxi⟩
          rw [List.mem_cons, List.mem_filter] at hx
          rcases hx with rfl | ⟨hx, _⟩
          · omega
          · exact ⟨x, hx, hxi⟩
  · rw [List.getElem?_eq_none (by simp [bcells_len]; omega), List.getElem?_eq_none (by rw [bcells_len]; omega)]
theorem mask_swap_lt (ps : List Int) (n i1 i2 : Nat) (h2 : i2 < n) (hps : ∀ x ∈ ps, 0 ≤ x ∧ x < (n : Int)) : maskL ((i2 : Int) :: ps.filter (fun x => decide (x ≠ (i1 : Int)))) < 2 ^ n :=
  maskL_ltP (fun x hx => by
    rw [List.mem_cons, List.mem_filter] at hx
    rcases hx with rfl | ⟨hx, _⟩
    · omega
    · exact hps x hx)
theorem ItemR.below {w w' : World} {base : Nat} {its : List ItemL} {v : Value} (h : ItemR w base its v) (hb : Below w.heap.size w w') : ItemR w' base its v := by
  obtain ⟨cl, h1, h2⟩ := h
  exact ⟨cl, own_below h1 hb, fun i hi => by
    obtain ⟨A, c, B, d, e1, e2, o1, o2⟩ := h2 i hi
    exact ⟨A, c, B, d, e1, e2, ⟨o1.ints.below hb, o1.apart, o1.far⟩, ⟨o2.ints.below hb, o2.apart, o2.far⟩⟩⟩
/-- Where a row of items begins, and what its cells are. -/
theorem ItemR.cells {w : World} {base n c : Nat} {its : List ItemL} {A : Option Addr} (h : ItemR w base its (.slice A n c)) (hn : 0 < its.length) : ∃ G, A = some ⟨G, 0, none⟩ ∧ n = its.length ∧ base ≤ G ∧ G < w.heap.size ∧ its.length ≤ c ∧ (∀ j, w.frozen? ⟨G, j, none⟩ = false) ∧ (∃ cur fr, w.heap[G]? = some (.cells cur 76 fr)) ∧
    ∀ i, i < its.length → ∃ X d Y e, w.cell? ⟨G, i * 2, none⟩ = some (.slice X (its[i]?.getD ([], [])).1.length d) ∧ w.cell? ⟨G, i * 2 + 1, none⟩ = some (.slice Y (its[i]?.getD ([], [])).2.length e) ∧ Ints w X (its[i]?.getD ([], [])).1 := by
  obtain ⟨cl, h1, h2⟩ := h
  rcases h1.2 with ⟨_, h0⟩ | ⟨g, c', cur, hv, hg, hh, hc, _⟩
  · omega
  · simp only [Value.slice.injEq] at hv
    obtain ⟨rfl, rfl, rfl⟩ := hv
    refine ⟨g, rfl, rfl, hg, (Array.getElem?_eq_some_iff.1 hh).1, hc, h1.frozenAt, ⟨_, _, hh⟩, fun i hi => ?_⟩
    obtain ⟨X, d, Y, e, e1, e2, o1, _⟩ := h2 i hi
    exact ⟨X, d, Y, e, row_cells h1 _ _ e1, row_cells h1 _ _ e2, o1.ints⟩
/-- A list of a row of items is another one. -/
theorem ItemR.putNew {w0 w : World} {base q : Nat} {its : List ItemL} {G n c d : Nat} {X : Option Addr} {ys : List Int} (h : ItemR w0 base its (.slice (some ⟨G, 0, none⟩) n c)) (hb : Below w0.heap.size w0 w) (hm : w0.heap.size ≤ q) (hbm : base ≤ q) (j : Nat) (hj : j < its.length) (hx : Own w q (.slice X ys.length d) ys) (hl : ys.length ≤ 1000) (hy : ∀ x ∈ ys, 0 ≤ x ∧ x < 64) :
    ItemR (w.setCell ⟨G, j * 2, none⟩ (.slice X ys.length d)) base (its.set j (ys, (its[j]?.getD ([], [])).2)) (.slice (some ⟨G, 0, none⟩) n c) := by
  obtain ⟨cl, h1, h2⟩ := h
  have hn : n = its.length := by
    rcases h1.2 with ⟨hv, _⟩ | ⟨g, c', cur, hv, _⟩
    · simp at hv
    · simp only [Value.slice.injEq] at hv; exact hv.2.1
  subst hn
  have h1w := own_below h1 hb
  have hG : G < w0.heap.size := (h1.lt G rfl).2
  have hst := (World.ownsRow.stored (w := w) h1w (j * 2) (.slice X ys.length d)).1
  have hcl : cl.length = its.length * 2 := h1.1
  have far : ∀ {A : Option Addr} {xs : List Int}, OwnSet w0 base (.slice (some ⟨G, 0, none⟩) its.length c) A xs → OwnSet (w.setCell ⟨G, j * 2, none⟩ (.slice X ys.length d)) base (.slice (some ⟨G, 0, none⟩) its.length c) A xs := by
    intro A xs ho
    refine ⟨?_, ho.apart, ho.far⟩
    have hi := ho.ints.below hb
    refine ⟨hi.len, ?_, hi.bd⟩
    rcases hi.at_ with e | ⟨b, off, rfl, hc⟩
    · exact .inl e
    · rcases ho.apart with e | hne
      · exact .inl e
      · have hne2 := hne _ rfl
        refine .inr ⟨b, off, rfl, fun i hi => ?_⟩
        rw [World.cell?_setCell_far _ _ _ _ (by dsimp only; intro e; exact hne2 (by rw [← e]; rfl))]
        exact hc i hi
  refine ⟨cl.set (j * 2) (.slice X ys.length d), by rw [List.length_set]; exact hst, fun i hi => ?_⟩
  rw [List.length_set] at hi
  obtain ⟨A, c1, B, d1, e1, e2, o1, o2⟩ := h2 i hi
  by_cases hij : i = j
  · subst hij
    have E : (its.set i (ys, (its[i]?.getD ([], [])).2))[i]?.getD ([], []) = (ys, (its[i]?.getD ([], [])).2) := by rw [List.getElem?_set_self hi]; rfl
    simp only [E]
    refine ⟨X, d, B, d1, List.getElem?_set_self (by omega), by rw [List.getElem?_set_ne (by omega)]; exact e2, ⟨?_, ?_, ?_⟩, far o2⟩
    · obtain ⟨X', d', hv, hI⟩ := hx.ints (by omega) (fun x hx => by have := hy x hx; omega)
      cases hv
      refine ⟨hI.len, ?_, hI.bd⟩
      rcases hI.at_ with e | ⟨b, off, rfl, hc⟩
      · exact .inl e
      · have hbq := (Go.World.ownsRow.lt hx b rfl).1
        refine .inr ⟨b, off, rfl, fun k hk => ?_⟩
        rw [World.cell?_setCell_far _ _ _ _ (by dsimp only; omega)]
        exact hc k hk
    · refine .inr (fun p hp => ?_)
      subst hp
      have hbq := (Go.World.ownsRow.lt hx p.block rfl).1
      intro e
      have := Option.some.inj e
      dsimp only at this
      omega
    · refine .inr (fun p hp => ?_)
      subst hp
      have hbq := (Go.World.ownsRow.lt hx p.block rfl).1
      omega
  · have E : (its.set j (ys, (its[j]?.getD ([], [])).2))[i]?.getD ([], []) = its[i]?.getD ([], []) := by rw [List.getElem?_set_ne (fun e => hij e.symm)]
    simp only [E]
    exact ⟨A, c1, B, d1, by rw [List.getElem?_set_ne (by omega)]; exact e1, by rw [List.getElem?_set_ne (by omega)]; exact e2, far o1, far o2⟩
end Go.Proofs.Ytdgleicpcjfnoaa
set_option linter.unusedVariables false
set_option linter.unusedSimpArgs false
namespace Go.Proofs.Ytdgleicpcjfnoaa
open Go.RowKit

theorem KeepIn.refl (n m g : Nat) (w : World) : KeepIn n m g w w := fun _ _ _ _ _ _ h => h
theorem KeepIn.trans {n m g : Nat} {w w1 w2 : World} (h : KeepIn n m g w w1) (h2 : KeepIn n m g w1 w2) : KeepIn n m g w w2 := fun b off v a1 a2 a3 h0 => h2 b off v a1 a2 a3 (h b off v a1 a2 a3 h0)
theorem KeepIn.below {n m g : Nat} {w w' : World} (hb : Below w.heap.size w w') : KeepIn n m g w w' := fun b off v _ _ _ h0 => (hb.cell (p := ⟨b, off, none⟩) (cell_lt h0)).trans h0
theorem KeepIn.setCell (n m g : Nat) (w : World) (p : Addr) (u : Value) (hp : p.block < n ∨ m ≤ p.block) : KeepIn n m g w (w.setCell p u) := by
  intro b off v h1 h2 _ h0
  rw [World.cell?_setCell_far _ _ _ _ (by dsimp only; omega)]
  exact h0
/-- The boxes of swapped. -/
structure SpB (w0 w : World) (q : Nat) (P : Int) (i r : Value) (s : Int × Int) (v1 v2 : Value) : Prop where
  b0 : w.cell? ⟨w0.heap.size, 0, none⟩ = some (.int .i64 P)
  b1 : w.cell? ⟨w0.heap.size, 1, none⟩ = some i
  b2 : w.cell? ⟨w0.heap.size, 2, none⟩ = some r
  s0 : w.cell? ⟨w0.heap.size + 1, 0, none⟩ = some (.int .i64 s.1)
  s1 : w.cell? ⟨w0.heap.size + 1, 1, none⟩ = some (.int .i64 s.2)
  r0 : w.cell? ⟨w0.heap.size + 2, 0, none⟩ = some (.int .i64 0)
  r1 : w.cell? ⟨w0.heap.size + 2, 1, none⟩ = some (.slice none 0 0)
  r2 : w.cell? ⟨w0.heap.size + 2, 2, none⟩ = some (.slice none 0 0)
  rf : ∀ j, j < 3 → w.frozen? ⟨w0.heap.size + 2, j, none⟩ = false
  c0 : w.cell? ⟨q, 0, none⟩ = some (.int .i64 P)
  c1 : w.cell? ⟨q, 1, none⟩ = some v1
  c2 : w.cell? ⟨q, 2, none⟩ = some v2
  cq : ∃ cur fr, w.heap[q]? = some (.cells cur 25 fr)
  hq : w0.heap.size + 3 ≤ q
  bel : Below w0.heap.size w0 w
theorem SpB.below {w0 w w' : World} {q : Nat} {P : Int} {i r v1 v2 : Value} {s : Int × Int} (h : SpB w0 w q P i r s v1 v2) (hb : Below w.heap.size w w') : SpB w0 w' q P i r s v1 v2 := by
  have hc : ∀ {a : Addr} {u : Value}, w.cell? a = some u → w'.cell? a = some u := fun hu => (hb.cell (cell_lt hu)).trans hu
  have hl := cell_lt h.r0
  have hlq := cell_lt h.c0
  obtain ⟨cur, fr, e⟩ := h.cq
  exact ⟨hc h.b0, hc h.b1, hc h.b2, hc h.s0, hc h.s1, hc h.r0, hc h.r1, hc h.r2, fun j hj => (hb.frozen (p := ⟨w0.heap.size + 2, j, none⟩) hl).trans (h.rf j hj), hc h.c0, hc h.c1, hc h.c2, ⟨cur, fr, by rw [hb.block q hlq]; exact e⟩, h.hq, h.bel.trans (hb.mono h.bel.size)⟩
theorem SpB.keepSet {w0 w : World} {q : Nat} {P : Int} {i r v1 v2 : Value} {s : Int × Int} (h : SpB w0 w q P i r s v1 v2) (p : Addr) (u : Value) (hp : w0.heap.size + 3 ≤ p.block) (hq2 : p.block ≠ q) : SpB w0 (w.setCell p u) q P i r s v1 v2 := by
  obtain ⟨b0, b1, b2, s0, s1, r0, r1, r2, rf, c0, c1, c2, ⟨cur, fr, cq⟩, hq, bel⟩ := h
  have far : ∀ {a : Addr} {x : Value}, a.block ≠ p.block → w.cell? a = some x → (w.setCell p u).cell? a = some x := fun hne hx => by rw [World.cell?_setCell_far _ _ _ _ (fun e => hne e.symm)]; exact hx
  exact ⟨far (by dsimp only; omega) b0, far (by dsimp only; omega) b1, far (by dsimp only; omega) b2, far (by dsimp only; omega) s0, far (by dsimp only; omega) s1, far (by dsimp only; omega) r0, far (by dsimp only; omega) r1, far (by dsimp only; omega) r2, fun j hj => by have := rf j hj; go_simp, far (by dsimp only; omega) c0, far (by dsimp only; omega) c1, far (by dsimp only; omega) c2, ⟨cur, fr, by rw [heap_setCell_other w p q u (by omega)]; exact cq⟩, hq, bel.setCell (by omega) _⟩
theorem SpB.fin {w0 w : World} {q : Nat} {P : Int} {i r v1 v2 : Value} {s : Int × Int} (h : SpB w0 w q P i r s v1 v2) (x y z : Value) : Below w0.heap.size w0 (((w.setCell ⟨w0.heap.size + 2, 0, none⟩ x).setCell ⟨w0.heap.size + 2, 1, none⟩ y).setCell ⟨w0.heap.size + 2, 2, none⟩ z) :=
  ((h.bel.setCell (by show w0.heap.size ≤ w0.heap.size + 2; omega) _).setCell (by show w0.heap.size ≤ w0.heap.size + 2; omega) _).setCell (by show w0.heap.size ≤ w0.heap.size + 2; omega) _
/-- What swapped answers. -/
def SwdR (w : World) (P : Int) (ia : Option Addr) (its : List ItemL) (ic : Nat) (ra : Option Addr) (rls : List RuleL) (rc : Nat) (s : Int × Int) (en : Ending) (w' : World) : Prop :=
  Below w.heap.size w w' ∧ ((exTo s its its.length = none ∧ en = .returned (.tuple #[.agg #[.int .i64 P, .slice ia its.length ic, .slice ra rls.length rc], .bool false])) ∨
    ∃ l A c R d, exTo s its its.length = some l ∧ en = .returned (.tuple #[.agg #[.int .i64 P, .slice A l.length c, .slice R rls.length d], .bool true]) ∧ ∀ w'', SameAbove w.heap.size w' w'' → BookAt w'' P A l R rls)
set_option maxRecDepth 100000 in
set_option maxHeartbeats 16000000 in
theorem swapped_any (P : Int) (ia : Option Addr) (its : List ItemL) (ic : Nat) (ra : Option Addr) (rls : List RuleL) (rc : Nat) (sx sy : Int) (w : World) (h : BookAt w P ia its ra rls) (hv : validB P its rls = 0) (hsb : (0 ≤ sx ∧ sx < (its.length : Int)) ∧ 0 ≤ sy ∧ sy < (its.length : Int)) :
  Calls Try.prog 106 #[.agg #[.int .i64 P, .slice ia its.length ic, .slice ra rls.length rc], .agg #[.int .i64 sx, .int .i64 sy]] w (SwdR w P ia its ic ra rls rc (sx, sy)) := by
  obtain ⟨v0, v1, v2, v3, v4, v5⟩ := validB_ok hv
  obtain ⟨w1, hw1⟩ : ∃ w1, ((w.alloc (.cells #[.int .i64 P, .slice ia its.length ic, .slice ra rls.length rc] 25)).alloc (.cells #[.int .i64 sx, .int .i64 sy] 71)).alloc (.cells #[.int .i64 0, .slice none 0 0, .slice none 0 0] 25) = w1 := ⟨_, rfl⟩
  have hB1 : Below w.heap.size w w1 := by rw [← hw1]; exact (((Below.refl _ _).alloc (Nat.le_refl _) _).alloc (by simp) _).alloc (by simp; omega) _
  have a0 : w1.cell? ⟨w.heap.size, 0, none⟩ = some (.int .i64 P) := by rw [← hw1]; clear hw1; go_simp
  have a1 : w1.cell? ⟨w.heap.size, 1, none⟩ = some (.slice ia its.length ic) := by rw [← hw1]; clear hw1; go_simp
  have a2 : w1.cell? ⟨w.heap.size, 2, none⟩ = some (.slice ra rls.length rc) := by rw [← hw1]; clear hw1; go_simp
  have t0 : w1.cell? ⟨w.heap.size + 1, 0, none⟩ = some (.int .i64 sx) := by rw [← hw1]; clear hw1; go_simp
  have t1 : w1.cell? ⟨w.heap.size + 1, 1, none⟩ = some (.int .i64 sy) := by rw [← hw1]; clear hw1; go_simp
  have s0 : w1.cell? ⟨w.heap.size + 2, 0, none⟩ = some (.int .i64 0) := by rw [← hw1]; clear hw1; go_simp
  have s1 : w1.cell? ⟨w.heap.size + 2, 1, none⟩ = some (.slice none 0 0) := by rw [← hw1]; clear hw1; go_simp
  have s2 : w1.cell? ⟨w.heap.size + 2, 2, none⟩ = some (.slice none 0 0) := by rw [← hw1]; clear hw1; go_simp
  have sf : ∀ j, j < 3 → w1.frozen? ⟨w.heap.size + 2, j, none⟩ = false := by rw [← hw1]; clear hw1; exact fun j hj => by go_simp
  have hs1 : w1.heap.size = w.heap.size + 3 := by rw [← hw1]; simp
  have HCP := hid (copyBkF_any P ia its ic ra rls rc w1 (h.below hB1) (by omega) (fun i hi => by
    have := itemsE_ok P its 0 v4 i hi
    obtain ⟨p, rfl⟩ := Int.eq_ofNat_of_zero_le v0
    have h2 := isSet_len this.2.2; omega) (by omega) (fun i hi => by
    obtain ⟨p, rfl⟩ := Int.eq_ofNat_of_zero_le v0
    exact (rules_small v5 (by omega) i hi).1))
  have HOk := hid ((itOk_iff P its).1 v4)
  clear h hv v4 v5
  go_enter Try.func106, Try.ntmps106
  go_upto_region 1 with (fail)
  clear hw1
  go_wp2_with fail
  refine HCP.out.mono ?_
  rintro e w4 ⟨q4, A, c, R, d, g, mI, rfl, hcf, hlo, hhi⟩
  clear HCP
  obtain ⟨w5, hw5⟩ : ∃ w5, w4.alloc (.cells #[.int .i64 P, .slice A its.length c, .slice R rls.length d] 25) = w5 := ⟨_, rfl⟩
  have h45 : Below w4.heap.size w4 w5 := by rw [← hw5]; exact (Below.refl _ _).alloc (Nat.le_refl _) _
  have hc : ∀ {a : Addr} {u : Value}, w1.cell? a = some u → w5.cell? a = some u := fun hu => by
    have h4 := (q4.cell (cell_lt hu)).trans hu
    exact (h45.cell (cell_lt h4)).trans h4
  have e0 : w5.cell? ⟨w4.heap.size, 0, none⟩ = some (.int .i64 P) := by rw [← hw5]; clear hw5; go_simp
  have e1 : w5.cell? ⟨w4.heap.size, 1, none⟩ = some (.slice A its.length c) := by rw [← hw5]; clear hw5; go_simp
  have e2 : w5.cell? ⟨w4.heap.size, 2, none⟩ = some (.slice R rls.length d) := by rw [← hw5]; clear hw5; go_simp
  have hsz4 := q4.size
  have hlt3 := cell_lt s0
  have hgl := hcf.glo
  have hgm := hcf.gm
  have hmw := hcf.mw
  have HD := hid (show SpB w w5 w4.heap.size P (.slice ia its.length ic) (.slice ra rls.length rc) (sx, sy) (.slice A its.length c) (.slice R rls.length d) from
    ⟨hc a0, hc a1, hc a2, hc t0, hc t1, hc s0, hc s1, hc s2, fun j hj => by
      have f3 := sf j hj
      have f4 := (q4.frozen (p := ⟨w.heap.size + 2, j, none⟩) hlt3).trans f3
      exact (h45.frozen (p := ⟨w.heap.size + 2, j, none⟩) (Nat.lt_of_lt_of_le hlt3 hsz4)).trans f4, e0, e1, e2, ⟨_, _, by rw [← hw5]; exact heap_alloc_new _ _⟩, by omega, (hB1.trans (q4.mono hB1.size)).trans (h45.mono (by omega))⟩)
  have HI := hid (hcf.items.below h45)
  have HRl := hid (fun (w'' : World) (hk : KeepIn (w.heap.size + 5) mI g w4 w'') => (hcf.rules w'' (by rw [hs1]; exact hk)).1)
  have HR := hid (show KeepIn (w.heap.size + 5) mI g w4 w5 from KeepIn.below h45)
  have hmI : w.heap.size + 5 < mI := by omega
  have hmq : mI ≤ w4.heap.size := hmw
  have HLH := hid (And.intro hlo hhi)
  generalize hq : w4.heap.size = q at *
  clear a0 a1 a2 t0 t1 s0 s1 s2 sf hc e0 e1 hcf h45 q4 hsz4 hlt3 hB1 hgl hgm hmw hlo hhi
  go_upto_region 3 with (fail)
  clear hw5 e2
  go_loopw [7] (fun i wr => ∃ (j : Nat) (m : List ItemL), j ≤ its.length ∧ i = .int .i64 j ∧ Hid (exTo (sx, sy) its j = some m) ∧ Hid (SpB w wr q P (.slice ia its.length ic) (.slice ra rls.length rc) (sx, sy) (.slice A its.length c) (.slice R rls.length d)) ∧ Hid (ItemR wr mI m (.slice A its.length c)) ∧ Hid (KeepIn (w.heap.size + 5) mI g w4 wr)) (fun i _ => its.length - (intOf i).toNat)
  case atStart => exact ⟨0, its, Nat.zero_le _, rfl, rfl, HD.out, HI.out, HR.out⟩
  case round =>
    obtain ⟨j, m, hj, rfl, HT, HDr, HIr, HRr⟩ := hrel
    clear HD HI HR
    have hml := exTo_len HT.out
    have hok := exTo_ok (P := P) hj (by omega) hsb.2.1 HOk.out HT.out
    by_cases hlt : j < its.length
    · by_cases heq : sx = sy
      · subst heq
        have HN := hid (exTo_id (P := P) (by omega) (by omega) hok HT.out)
        obtain ⟨_, _, _, y0, y1, _, _, _, _, _, c1, _⟩ := id HDr.out
        have hb0 : (sx == sx) = true := by simp
        go_wp2
        go_quiet (fail)
        go_wp2
        go_roundw
        case rel => exact ⟨j + 1, m, by omega, by go_num, HN.out, HDr.out.below (below_drewN (Below.refl _ _) _), HIr.out.below (below_drewN (Below.refl _ _) _), HRr.out.trans (KeepIn.below (below_drewN (Below.refl _ _) _))⟩
        case measure => simp [intOf]; omega
      · have heqb : (sx == sy) = false := by simpa using heq
        obtain ⟨m1, m2, m3⟩ := hok j (by omega)
        rw [isSetFrom_iff] at m2
        obtain ⟨G, rfl, hnn, hGm, _, _, _, _, hcells⟩ := HIr.out.cells (by omega)
        clear hnn
        obtain ⟨X, d9, Y, e9, cx, _, hX⟩ := hcells j (by omega)
        have HPs0 := hid (show m[j]?.getD ([], []) = ((m[j]?.getD ([], [])).1, (m[j]?.getD ([], [])).2) from rfl)
        generalize hps : (m[j]?.getD ([], [])).1 = ps at *
        generalize hhs : (m[j]?.getD ([], [])).2 = hs at *
        have HPs := hid (show m[j]?.getD ([], []) = (ps, hs) from HPs0.out)
        have HSm := hid (show Small its.length ps from fun x hx => by have := m2.2 x hx; omega)
        have HHs := hid (fun (W : World) (hb : Below wr.heap.size wr W) => (has_any X d9 ps sx W (hX.below hb)).mono (fun e w' hh => (⟨by rw [← hh.1]; exact Below.refl _ _, hh.2⟩ : Below W.heap.size W w' ∧ e = .returned (.bool (memB sx ps)))))
        obtain ⟨_, _, _, y0, y1, _, _, _, _, _, c1, _⟩ := id HDr.out
        have HK5 := hid (fun (W : World) (hb : Below wr.heap.size wr W) => show W.cell? ⟨w.heap.size + 1, 0, none⟩ = some (.int .i64 sx) ∧ W.cell? ⟨w.heap.size + 1, 1, none⟩ = some (.int .i64 sy) ∧ W.cell? ⟨q, 1, none⟩ = some (.slice (some ⟨G, 0, none⟩) its.length c) ∧ W.cell? ⟨G, j * 2, none⟩ = some (.slice X ps.length d9) from
          ⟨(hb.cell (cell_lt y0)).trans y0, (hb.cell (cell_lt y1)).trans y1, (hb.cell (cell_lt c1)).trans c1, (hb.cell (cell_lt cx)).trans cx⟩)
        have hr0 : Below wr.heap.size wr wr := Below.refl _ _
        have hj0 : (0 : Int) ≤ (j : Int) := by omega
        have hj1 : (j : Int) < (its.length : Int) := by omega
        clear hcells cx y0 y1 hps hhs HPs0 m2 m3 hok
        go_upto_region 5 with (fail)
        clear c1
        refine wp_region_held_drew (S := (fun w' => w'.cell? ⟨w.heap.size + 1, 0, none⟩ = some (.int .i64 sx) ∧ w'.cell? ⟨w.heap.size + 1, 1, none⟩ = some (.int .i64 sy) ∧ w'.cell? ⟨q, 1, none⟩ = some (.slice (some ⟨G, 0, none⟩) its.length c) ∧ w'.cell? ⟨G, j * 2, none⟩ = some (.slice X ps.length d9))) (by kernel_rfl) (HK5.out _ hr0.drew) (fun hHeld => ?_)
        refine take_d (i := 0) (d := some 18) (v := ?_) rfl rfl (by kernel_rfl) (by kernel_rfl) (by kernel_rfl) (fun _ _ _ h => h) (Or.inl ⟨by first | rfl | (simp [*, Region.wanted, yielded]), ?hyp1⟩) (by assumption) ?restp1
        case hyp1 => (intro w hSw; (try dsimp only at hSw); go_simp <;> with_reducible rfl)
        try simp only [Act.put, List.setIfInBounds_toArray, List.set_cons_zero, List.set_cons_succ]
        refine take_d (i := 1) (d := some 19) (v := ?_) rfl rfl (by kernel_rfl) (by kernel_rfl) (by kernel_rfl) (fun _ _ _ h => h) (Or.inl ⟨by first | rfl | (simp [*, Region.wanted, yielded]), ?hyp2⟩) (by assumption) ?restp2
        case hyp2 => (intro w hSw; (try dsimp only at hSw); go_simp <;> with_reducible rfl)
        try simp only [Act.put, List.setIfInBounds_toArray, List.set_cons_zero, List.set_cons_succ]
        refine take_d (i := 2) (d := some 20) (v := ?_) rfl rfl (by kernel_rfl) (by kernel_rfl) (by kernel_rfl) (fun _ _ _ h => h) (Or.inl ⟨by first | rfl | (simp [*, Region.wanted, yielded]), ?hyp3⟩) (by assumption) ?restp3
        case hyp3 => (intro w hSw; (try dsimp only at hSw); go_simp <;> with_reducible rfl)
        try simp only [Act.put, List.setIfInBounds_toArray, List.set_cons_zero, List.set_cons_succ]
        refine take_d (i := 3) (d := some 21) (v := ?_) rfl rfl (by kernel_rfl) (by kernel_rfl) (by kernel_rfl) (fun _ _ _ h => h) (Or.inl ⟨by first | rfl | (simp [*, Region.wanted, yielded]), ?hyp4⟩) (by assumption) ?restp4
        case hyp4 => (intro w hSw; (try dsimp only at hSw); go_simp <;> with_reducible rfl)
        try simp only [Act.put, List.setIfInBounds_toArray, List.set_cons_zero, List.set_cons_succ]
        refine take_d (i := 4) (d := some 22) (v := ?_) rfl rfl (by kernel_rfl) (by kernel_rfl) (by kernel_rfl) (fun _ _ _ h => h) (Or.inl ⟨by first | rfl | (simp [*, Region.wanted, yielded]), ?hyp5⟩) (by assumption) ?restp5
        case hyp5 => (intro w hSw; (try dsimp only at hSw); go_simp <;> with_reducible rfl)
        try simp only [Act.put, List.setIfInBounds_toArray, List.set_cons_zero, List.set_cons_succ]
        refine take_d (i := 5) (d := some 23) (v := ?_) rfl rfl (by kernel_rfl) (by kernel_rfl) (by kernel_rfl) (fun _ _ _ h => h) (Or.inl ⟨by first | rfl | (simp [*, Region.wanted, yielded]), ?hyp6⟩) (by assumption) ?restp6
        case hyp6 => (intro w hSw; (try dsimp only at hSw); go_simp <;> with_reducible rfl)
        try simp only [Act.put, List.setIfInBounds_toArray, List.set_cons_zero, List.set_cons_succ]
        refine take_d (i := 6) (d := some 24) (v := ?_) rfl rfl (by kernel_rfl) (by kernel_rfl) (by kernel_rfl) (fun _ _ _ h => h) (Or.inl ⟨by first | rfl | (simp [*, Region.wanted, yielded]), ?hyp7⟩) (by assumption) ?restp7
        case hyp7 => (intro w hSw; (try dsimp only at hSw); go_simp <;> with_reducible rfl)
        try simp only [Act.put, List.setIfInBounds_toArray, List.set_cons_zero, List.set_cons_succ]
        refine take_d (i := 7) (d := some 25) (v := ?_) rfl rfl (by kernel_rfl) (by kernel_rfl) (by kernel_rfl) (fun _ _ _ h => h) (Or.inl ⟨by first | rfl | (simp [*, Region.wanted, yielded]), ?hyp8⟩) (by assumption) ?restp8
        case hyp8 => (intro w hSw; (try dsimp only at hSw); go_simp <;> with_reducible rfl)
        try simp only [Act.put, List.setIfInBounds_toArray, List.set_cons_zero, List.set_cons_succ]
        refine take_d (i := 8) (d := some 26) (v := ?_) rfl rfl (by kernel_rfl) (by kernel_rfl) (by kernel_rfl) (fun _ _ _ h => h) (Or.inl ⟨by first | rfl | (simp [*, Region.wanted, yielded]), ?hyp9⟩) (by assumption) ?restp9
        case hyp9 => (intro w hSw; (try dsimp only at hSw); go_simp <;> with_reducible rfl)
        try simp only [Act.put, List.setIfInBounds_toArray, List.set_cons_zero, List.set_cons_succ]
        refine take_d (i := 9) (d := some 27) (v := ?_) rfl rfl (by kernel_rfl) (by kernel_rfl) (by kernel_rfl) (fun _ _ _ h => h) (Or.inl ⟨by first | rfl | (simp [*, Region.wanted, yielded]), ?hyp10⟩) (by assumption) ?restp10
        case hyp10 => (intro w hSw; (try dsimp only at hSw); go_simp <;> with_reducible rfl)
        try simp only [Act.put, List.setIfInBounds_toArray, List.set_cons_zero, List.set_cons_succ]
        refine take_d (i := 10) (d := some 28) (v := ?_) rfl rfl (by kernel_rfl) (by kernel_rfl) (by kernel_rfl) (fun _ _ _ h => h) (Or.inl ⟨by first | rfl | (simp [*, Region.wanted, yielded]), ?hyp11⟩) (by assumption) ?restp11
        case hyp11 => (intro w hSw; (try dsimp only at hSw); go_simp <;> with_reducible rfl)
        try simp only [Act.put, List.setIfInBounds_toArray, List.set_cons_zero, List.set_cons_succ]
        refine take_d (i := 11) (d := some 29) (v := ?_) rfl rfl (by kernel_rfl) (by kernel_rfl) (by kernel_rfl) (fun _ _ _ h => h) (Or.inl ⟨by first | rfl | (simp [*, Region.wanted, yielded]), ?hyp12⟩) (by assumption) ?restp12
        case hyp12 => (intro w hSw; (try dsimp only at hSw); go_simp <;> with_reducible rfl)
        try simp only [Act.put, List.setIfInBounds_toArray, List.set_cons_zero, List.set_cons_succ]
        refine take_d (i := 12) (d := some 30) (v := ?_) rfl rfl (by kernel_rfl) (by kernel_rfl) (by kernel_rfl) (fun _ _ _ h => h) (Or.inl ⟨by first | rfl | (simp [*, Region.wanted, yielded]), ?hyp13⟩) (by assumption) ?restp13
        case hyp13 => (intro w hSw; (try dsimp only at hSw); go_simp <;> with_reducible rfl)
        try simp only [Act.put, List.setIfInBounds_toArray, List.set_cons_zero, List.set_cons_succ]
        refine take_d (i := 13) (d := some 31) (v := ?_) rfl rfl (by kernel_rfl) (by kernel_rfl) (by kernel_rfl) (fun _ _ _ h => h) (Or.inl ⟨by first | rfl | (simp [*, Region.wanted, yielded]), ?hyp14⟩) (by assumption) ?restp14
        case hyp14 => (intro w hSw; (try dsimp only at hSw); go_simp <;> with_reducible rfl)
        try simp only [Act.put, List.setIfInBounds_toArray, List.set_cons_zero, List.set_cons_succ]
        refine wpAnyH_ready (rs := [14]) (by kernel_rfl) (by simp) ?_
        refine AllReadyH.cons (o := _) rfl (fun K hK => ?_) AllReadyH.nil
        go_simp
        refine (HHs.out _ hr0.drew).mono ?_
        rintro e5 w5 ⟨hb5, rfl⟩
        have p5 : Below wr.heap.size wr w5 := hr0.drew.trans hb5
        go_wp2_with fail
        refine hK.out _ _ (HK5.out _ p5) (fun hHeld => ?_)
        clear hK K
        try simp only [Act.put, List.setIfInBounds_toArray, List.set_cons_zero, List.set_cons_succ]
        refine take_d (i := 15) (d := some 33) (v := ?_) rfl rfl (by kernel_rfl) (by kernel_rfl) (by kernel_rfl) (fun _ _ _ h => h) (Or.inl ⟨by first | rfl | (simp [*, Region.wanted, yielded]), ?hyp15⟩) (by assumption) ?restp15
        case hyp15 => (intro w hSw; (try dsimp only at hSw); go_simp <;> with_reducible rfl)
        try simp only [Act.put, List.setIfInBounds_toArray, List.set_cons_zero, List.set_cons_succ]
        refine take_d (i := 16) (d := some 34) (v := ?_) rfl rfl (by kernel_rfl) (by kernel_rfl) (by kernel_rfl) (fun _ _ _ h => h) (Or.inl ⟨by first | rfl | (simp [*, Region.wanted, yielded]), ?hyp16⟩) (by assumption) ?restp16
        case hyp16 => (intro w hSw; (try dsimp only at hSw); go_simp <;> with_reducible rfl)
        try simp only [Act.put, List.setIfInBounds_toArray, List.set_cons_zero, List.set_cons_succ]
        refine wpAnyH_done (by kernel_rfl) ?_ _
        go_simp
        have HD5 := hid (HDr.out.below p5)
        have HI5 := hid (HIr.out.below p5)
        have HR5 := hid (HRr.out.trans (KeepIn.below p5))
        have HX5 := hid (hX.below p5)
        obtain ⟨sx5, sy5, c15, cx5⟩ := HK5.out _ p5
        clear HK5 HHs hr0 HDr HIr HRr p5 hX hb5
        cases hmem : memB sx ps with
        | false =>
          have HN := hid (show exTo (sx, sy) its (j + 1) = some m by rw [exTo, HT.out, Option.bind_some, HPs.out, hmem]; rfl)
          clear hmem
          go_wp2
          go_roundw
          case rel => exact ⟨j + 1, m, by omega, by go_num, HN.out, HD5.out, HI5.out, HR5.out⟩
          case measure => simp [intOf]; omega
        | true =>
          by_cases hge : (j : Int) ≤ sy
          · have HN := hid (exTo_none (show exTo (sx, sy) its (j + 1) = none by rw [exTo, HT.out, Option.bind_some, HPs.out, hmem, if_pos rfl, if_pos hge]) its.length (by omega))
            obtain ⟨b0, b1, b2, _, _, r0, r1, r2, rf, _⟩ := id HD5.out
            have f0 := rf 0 (by omega)
            have f1 := rf 1 (by omega)
            have f2 := rf 2 (by omega)
            clear rf hmem
            go_wp2
            refine bodyPost_ret (v := .tuple #[.agg #[.int .i64 P, .slice ia its.length ic, .slice ra rls.length rc], .bool false]) (by simp [results, Try.results106, go_sem, r0, r1, r2]) rfl ⟨HD5.out.fin _ _ _, .inl ⟨HN.out, rfl⟩⟩
          · have HN := hid (show exTo (sx, sy) its (j + 1) = some (m.set j (exP (sx, sy) ps, hs)) by rw [exTo, HT.out, Option.bind_some, HPs.out, hmem, if_pos rfl, if_neg hge])
            have b1 := HD5.out.b1
            have HM := hid (fun (W : World) (hb : Below w5.heap.size w5 W) => marks_any X ps d9 its.length W (HX5.out.below hb) HSm.out (by omega))
            have HK8 := hid (fun (W : World) (hb : Below w5.heap.size w5 W) => show W.cell? ⟨w.heap.size, 1, none⟩ = some (.slice ia its.length ic) ∧ W.cell? ⟨q, 1, none⟩ = some (.slice (some ⟨G, 0, none⟩) its.length c) ∧ W.cell? ⟨G, j * 2, none⟩ = some (.slice X ps.length d9) from ⟨(hb.cell (cell_lt b1)).trans b1, (hb.cell (cell_lt c15)).trans c15, (hb.cell (cell_lt cx5)).trans cx5⟩)
            have hr5 : Below w5.heap.size w5 w5 := Below.refl _ _
            clear hmem b1
            go_upto_region 8 with (fail)
            refine wp_region_held_drew (S := (fun w' => w'.cell? ⟨w.heap.size, 1, none⟩ = some (.slice ia its.length ic) ∧ w'.cell? ⟨q, 1, none⟩ = some (.slice (some ⟨G, 0, none⟩) its.length c) ∧ w'.cell? ⟨G, j * 2, none⟩ = some (.slice X ps.length d9))) (by kernel_rfl) (HK8.out _ hr5.drew) (fun hHeld => ?_)
            refine take_d (i := 0) (d := some 40) (v := ?_) rfl rfl (by kernel_rfl) (by kernel_rfl) (by kernel_rfl) (fun _ _ _ h => h) (Or.inl ⟨by first | rfl | (simp [*, Region.wanted, yielded]), ?hyr1⟩) (by assumption) ?restr1
            case hyr1 => (intro w hSw; (try dsimp only at hSw); go_simp <;> with_reducible rfl)
            try simp only [Act.put, List.setIfInBounds_toArray, List.set_cons_zero, List.set_cons_succ]
            refine take_d (i := 1) (d := some 41) (v := ?_) rfl rfl (by kernel_rfl) (by kernel_rfl) (by kernel_rfl) (fun _ _ _ h => h) (Or.inl ⟨by first | rfl | (simp [*, Region.wanted, yielded]), ?hyr2⟩) (by assumption) ?restr2
            case hyr2 => (intro w hSw; (try dsimp only at hSw); go_simp <;> with_reducible rfl)
            try simp only [Act.put, List.setIfInBounds_toArray, List.set_cons_zero, List.set_cons_succ]
            refine take_d (i := 2) (d := some 42) (v := ?_) rfl rfl (by kernel_rfl) (by kernel_rfl) (by kernel_rfl) (fun _ _ _ h => h) (Or.inl ⟨by first | rfl | (simp [*, Region.wanted, yielded]), ?hyr3⟩) (by assumption) ?restr3
            case hyr3 => (intro w hSw; (try dsimp only at hSw); go_simp <;> with_reducible rfl)
            try simp only [Act.put, List.setIfInBounds_toArray, List.set_cons_zero, List.set_cons_succ]
            refine take_d (i := 3) (d := some 43) (v := ?_) rfl rfl (by kernel_rfl) (by kernel_rfl) (by kernel_rfl) (fun _ _ _ h => h) (Or.inl ⟨by first | rfl | (simp [*, Region.wanted, yielded]), ?hyr4⟩) (by assumption) ?restr4
            case hyr4 => (intro w hSw; (try dsimp only at hSw); go_simp <;> with_reducible rfl)
            try simp only [Act.put, List.setIfInBounds_toArray, List.set_cons_zero, List.set_cons_succ]
            refine take_d (i := 4) (d := some 44) (v := ?_) rfl rfl (by kernel_rfl) (by kernel_rfl) (by kernel_rfl) (fun _ _ _ h => h) (Or.inl ⟨by first | rfl | (simp [*, Region.wanted, yielded]), ?hyr5⟩) (by assumption) ?restr5
            case hyr5 => (intro w hSw; (try dsimp only at hSw); go_simp <;> with_reducible rfl)
            try simp only [Act.put, List.setIfInBounds_toArray, List.set_cons_zero, List.set_cons_succ]
            refine take_d (i := 5) (d := some 45) (v := ?_) rfl rfl (by kernel_rfl) (by kernel_rfl) (by kernel_rfl) (fun _ _ _ h => h) (Or.inl ⟨by first | rfl | (simp [*, Region.wanted, yielded]), ?hyr6⟩) (by assumption) ?restr6
            case hyr6 => (intro w hSw; (try dsimp only at hSw); go_simp <;> with_reducible rfl)
            try simp only [Act.put, List.setIfInBounds_toArray, List.set_cons_zero, List.set_cons_succ]
            refine take_d (i := 6) (d := some 46) (v := ?_) rfl rfl (by kernel_rfl) (by kernel_rfl) (by kernel_rfl) (fun _ _ _ h => h) (Or.inl ⟨by first | rfl | (simp [*, Region.wanted, yielded]), ?hyr7⟩) (by assumption) ?restr7
            case hyr7 => (intro w hSw; (try dsimp only at hSw); go_simp <;> with_reducible rfl)
            try simp only [Act.put, List.setIfInBounds_toArray, List.set_cons_zero, List.set_cons_succ]
            refine take_d (i := 7) (d := some 47) (v := ?_) rfl rfl (by kernel_rfl) (by kernel_rfl) (by kernel_rfl) (fun _ _ _ h => h) (Or.inl ⟨by first | rfl | (simp [*, Region.wanted, yielded]), ?hyr8⟩) (by assumption) ?restr8
            case hyr8 => (intro w hSw; (try dsimp only at hSw); go_simp <;> with_reducible rfl)
            try simp only [Act.put, List.setIfInBounds_toArray, List.set_cons_zero, List.set_cons_succ]
            refine take_d (i := 8) (d := some 48) (v := ?_) rfl rfl (by kernel_rfl) (by kernel_rfl) (by kernel_rfl) (fun _ _ _ h => h) (Or.inl ⟨by first | rfl | (simp [*, Region.wanted, yielded]), ?hyr9⟩) (by assumption) ?restr9
            case hyr9 => (intro w hSw; (try dsimp only at hSw); go_simp <;> with_reducible rfl)
            try simp only [Act.put, List.setIfInBounds_toArray, List.set_cons_zero, List.set_cons_succ]
            refine wpAnyH_ready (rs := [9]) (by kernel_rfl) (by simp) ?_
            refine AllReadyH.cons (o := _) rfl (fun K hK => ?_) AllReadyH.nil
            go_simp
            refine (HM.out _ hr5.drew).mono ?_
            rintro e8 w8 ⟨hb8, g8, c8, rfl, hB8⟩
            have p8 : Below w5.heap.size w5 w8 := hr5.drew.trans hb8
            go_wp2_with fail
            refine hK.out _ _ (HK8.out _ p8) (fun hHeld => ?_)
            clear hK K
            try simp only [Act.put, List.setIfInBounds_toArray, List.set_cons_zero, List.set_cons_succ]
            refine take_d (i := 10) (d := some 8) (v := ?_) rfl rfl (by kernel_rfl) (by kernel_rfl) (by kernel_rfl) (fun _ _ _ h => h) (Or.inl ⟨by first | rfl | (simp [*, Region.wanted, yielded]), ?hyr10⟩) (by assumption) ?restr10
            case hyr10 => (intro w hSw; (try dsimp only at hSw); go_simp <;> with_reducible rfl)
            try simp only [Act.put, List.setIfInBounds_toArray, List.set_cons_zero, List.set_cons_succ]
            refine wpAnyH_done (by kernel_rfl) ?_ _
            go_simp
            have HD8 := hid (HD5.out.below p8)
            have HI8 := hid (HI5.out.below p8)
            have HR8 := hid (HR5.out.trans (KeepIn.below p8))
            have hs8 := p8.size
            obtain ⟨i1, hi1⟩ := Int.eq_ofNat_of_zero_le hsb.1.1
            obtain ⟨i2, hi2⟩ := Int.eq_ofNat_of_zero_le hsb.2.1
            have hb1 : i1 < its.length := by omega
            have hb2 : i2 < its.length := by omega
            have hne12 : i1 ≠ i2 := by omega
            have hsw := bcells_swap ps its.length i1 i2 hb1 hb2 hne12 (fun x hx => (HSm.out x hx).1)
            have HMl := hid (mask_swap_lt ps its.length i1 i2 hb2 HSm.out)
            have HXp := hid (show exP (sx, sy) ps = bitsTo (maskL ((i2 : Int) :: ps.filter (fun x => decide (x ≠ (i1 : Int))))) 64 by rw [hi1, hi2]; rfl)
            generalize maskL ((i2 : Int) :: ps.filter (fun x => decide (x ≠ (i1 : Int)))) = M2 at *
            generalize maskL ps = M1 at *
            have HSW := hid hsw
            subst hi1
            subst hi2
            obtain ⟨hg8, hg8l⟩ := hB8.base
            have m1 : w8.cell? ⟨g8, i1, none⟩ = some (.bool (M1.testBit i1)) := by unfold OwnB at hB8; rw [hB8.cellAt _ (by omega), bcells_at _ _ i1 hb1]
            have m2 : w8.cell? ⟨g8, i2, none⟩ = some (.bool (M1.testBit i2)) := by unfold OwnB at hB8; rw [hB8.cellAt _ (by omega), bcells_at _ _ i2 hb2]
            have n1 : w8.frozen? ⟨g8, i1, none⟩ = false := by unfold OwnB at hB8; exact hB8.frozenAt i1
            have n2 : w8.frozen? ⟨g8, i2, none⟩ = false := by unfold OwnB at hB8; exact hB8.frozenAt i2
            have sx8 := HD8.out.s0
            have sy8 := HD8.out.s1
            have z1 : (0 : Int) ≤ (i1 : Int) := by omega
            have z2 : (i1 : Int) < (its.length : Int) := by omega
            have z3 : (0 : Int) ≤ (i2 : Int) := by omega
            have z4 : (i2 : Int) < (its.length : Int) := by omega
            have hg8 : w5.heap.size ≤ g8 := hg8
            have hgw : w.heap.size + 2 < g8 := by have := cell_lt HD8.out.r0; have h5 := cell_lt HD5.out.r0; dsimp only at h5; omega
            have k1 : (w8.setCell ⟨g8, i1, none⟩ (.bool false)).cell? ⟨w.heap.size + 1, 1, none⟩ = some (.int .i64 (i2 : Int)) := by rw [World.cell?_setCell_far _ _ _ _ (by dsimp only; omega)]; exact sy8
            have k2 : (w8.setCell ⟨g8, i2, none⟩ (.bool true)).cell? ⟨w.heap.size + 1, 0, none⟩ = some (.int .i64 (i1 : Int)) := by rw [World.cell?_setCell_far _ _ _ _ (by dsimp only; omega)]; exact sx8
            have k3 : (w8.setCell ⟨g8, i1, none⟩ (.bool false)).cell? ⟨g8, i2, none⟩ = some (.bool (M1.testBit i2)) := by rw [World.cell?_setCell_other _ _ _ _ (by simp only [ne_eq, Addr.mk.injEq]; omega)]; exact m2
            have k4 : (w8.setCell ⟨g8, i1, none⟩ (.bool false)).frozen? ⟨g8, i2, none⟩ = false := by go_simp
            have k5 : (w8.setCell ⟨g8, i2, none⟩ (.bool true)).cell? ⟨g8, i1, none⟩ = some (.bool (M1.testBit i1)) := by rw [World.cell?_setCell_other _ _ _ _ (by simp only [ne_eq, Addr.mk.injEq]; omega)]; exact m1
            have k6 : (w8.setCell ⟨g8, i2, none⟩ (.bool true)).frozen? ⟨g8, i1, none⟩ = false := by go_simp
            have HB8 := hid hB8
            have hn2 := bitsTo_len M2 its.length
            have HXq := hid (show exP ((i1 : Int), (i2 : Int)) ps = bitsTo M2 its.length from HXp.out.trans (bitsTo_P HMl.out (by omega)).symm)
            obtain ⟨w9, hw9⟩ : ∃ w9, ((w8.setCell ⟨g8, i1, none⟩ (.bool false)).setCell ⟨g8, i2, none⟩ (.bool true)).drew = w9 := ⟨_, rfl⟩
            have p9 : Below w5.heap.size w5 w9 := by rw [← hw9]; exact ((p8.setCell (p := ⟨g8, i1, none⟩) hg8 _).setCell (p := ⟨g8, i2, none⟩) hg8 _).drew
            have hO9 : BoolsAt w9 (some ⟨g8, 0, none⟩) its.length M2 := by
              have h1 := (World.ownsRow.stored (World.ownsRow.stored HB8.out i1 (.bool false)).1 i2 (.bool true)).1
              rw [HSW.out] at h1
              rw [← hw9]
              exact (OwnB.at_ h1 (by omega)).below (Below.refl _ _).drew
            have HHw := hid hw9
            clear hw9
            have HD9 := hid (HD5.out.below p9)
            have HI9 := hid (HI5.out.below p9)
            have HR9 := hid (HR5.out.trans (KeepIn.below p9))
            have hs9 := p9.size
            have c19 := HD9.out.c1
            have hqw := cell_lt c19
            obtain ⟨G', hG', hnn2, _, _, _, hfz, hty, _⟩ := HI9.out.cells (by omega)
            clear hnn2
            cases hG'
            have hGq : G ≠ q := by
              obtain ⟨cu, fr, e1⟩ := hty
              obtain ⟨cu2, fr2, e2⟩ := HD9.out.cq
              intro e
              rw [e, e2] at e1
              simp only [Option.some.injEq, Obj.cells.injEq] at e1
              exact absurd e1.2.1 (by decide)
            have hGl : G < w9.heap.size := by omega
            have cx9 := (p9.cell (cell_lt cx5)).trans cx5
            have fx9 := hfz (j * 2)
            have HPl := hid (fun (W : World) (hb : Below w9.heap.size w9 W) => places_any (some ⟨g8, 0, none⟩) its.length M2 c8 W (hO9.below hb) (by omega))
            rw [← HXq.out] at HPl hn2
            have HNb := hid (show ∀ x ∈ exP ((i1 : Int), (i2 : Int)) ps, 0 ≤ x ∧ x < 64 by
              rw [HXq.out]
              intro x hx
              rw [mem_bitsTo] at hx
              obtain ⟨i, rfl, hi, _⟩ := hx
              omega)
            have HKA := hid (fun (W : World) (hb : Below w9.heap.size w9 W) => show W.cell? ⟨q, 1, none⟩ = some (.slice (some ⟨G, 0, none⟩) its.length c) from (hb.cell (cell_lt c19)).trans c19)
            have HKB := hid (fun (W : World) (u : Value) (hb : Below w9.heap.size w9 W) => show (W.setCell ⟨G, j * 2, none⟩ u).cell? ⟨q, 1, none⟩ = some (.slice (some ⟨G, 0, none⟩) its.length c) by rw [World.cell?_setCell_far _ _ _ _ (by dsimp only; exact hGq)]; exact HKA.out W hb)
            have hr9 : Below w9.heap.size w9 w9 := Below.refl _ _
            clear HXp HXq hsw hB8 hb8 p8 HD5 HI5 HR5 HM HK8 hr5 hO9 hfz hty c19 p9
            generalize exP ((i1 : Int), (i2 : Int)) ps = np at *
            have hcx9 := hid (And.intro cx9 fx9)
            clear cx9 fx9
            generalize M1.testBit i1 = v1 at *
            generalize M1.testBit i2 = v2 at *
            go_upto_region 9 with (fail)
            go_region
            rw [HHw.out]
            clear k1 k2 k3 k4 k5 k6 m1 m2 n1 n2 sx8 sy8 HHw
            go_upto_region 10 with (fail)
            refine wp_region_held_drew (S := (fun w' => w'.cell? ⟨q, 1, none⟩ = some (.slice (some ⟨G, 0, none⟩) its.length c))) (by kernel_rfl) (HKA.out _ hr9.drew) (fun hHeld => ?_)
            refine take_d (i := 0) (d := some 58) (v := ?_) rfl rfl (by kernel_rfl) (by kernel_rfl) (by kernel_rfl) (fun _ _ _ h => h) (Or.inl ⟨by first | rfl | (simp [*, Region.wanted, yielded]), ?hys1⟩) (by assumption) ?rests1
            case hys1 => (intro w hSw; (try dsimp only at hSw); go_simp <;> with_reducible rfl)
            try simp only [Act.put, List.setIfInBounds_toArray, List.set_cons_zero, List.set_cons_succ]
            refine take_d (i := 1) (d := some 59) (v := ?_) rfl rfl (by kernel_rfl) (by kernel_rfl) (by kernel_rfl) (fun _ _ _ h => h) (Or.inl ⟨by first | rfl | (simp [*, Region.wanted, yielded]), ?hys2⟩) (by assumption) ?rests2
            case hys2 => (intro w hSw; (try dsimp only at hSw); go_simp <;> with_reducible rfl)
            try simp only [Act.put, List.setIfInBounds_toArray, List.set_cons_zero, List.set_cons_succ]
            refine take_d (i := 2) (d := some 60) (v := ?_) rfl rfl (by kernel_rfl) (by kernel_rfl) (by kernel_rfl) (fun _ _ _ h => h) (Or.inl ⟨by first | rfl | (simp [*, Region.wanted, yielded]), ?hys3⟩) (by assumption) ?rests3
            case hys3 => (intro w hSw; (try dsimp only at hSw); go_simp <;> with_reducible rfl)
            try simp only [Act.put, List.setIfInBounds_toArray, List.set_cons_zero, List.set_cons_succ]
            refine take_d (i := 3) (d := some 61) (v := ?_) rfl rfl (by kernel_rfl) (by kernel_rfl) (by kernel_rfl) (fun _ _ _ h => h) (Or.inl ⟨by first | rfl | (simp [*, Region.wanted, yielded]), ?hys4⟩) (by assumption) ?rests4
            case hys4 => (intro w hSw; (try dsimp only at hSw); go_simp <;> with_reducible rfl)
            try simp only [Act.put, List.setIfInBounds_toArray, List.set_cons_zero, List.set_cons_succ]
            refine wpAnyH_ready (rs := [4]) (by kernel_rfl) (by simp) ?_
            refine AllReadyH.cons (o := _) rfl (fun K hK => ?_) AllReadyH.nil
            go_simp
            refine (HPl.out _ hr9.drew).mono ?_
            rintro eA wA ⟨qA, A8, c9, rfl, owA⟩
            have pA : Below w9.heap.size w9 wA := hr9.drew.trans qA
            have cxA := (pA.cell (cell_lt hcx9.out.1)).trans hcx9.out.1
            have fxA := (pA.frozen (p := ⟨G, j * 2, none⟩) hGl).trans hcx9.out.2
            go_wp2_with fail
            refine hK.out _ _ (HKA.out _ pA) (fun hHeld => ?_)
            clear hK K
            try simp only [Act.put, List.setIfInBounds_toArray, List.set_cons_zero, List.set_cons_succ]
            refine take_d (i := 5) (d := some 63) (v := ?_) rfl rfl (by kernel_rfl) (by kernel_rfl) (by kernel_rfl) (fun _ _ _ h => h) (Or.inl ⟨by first | rfl | (simp [*, Region.wanted, yielded]), ?hys5⟩) (by assumption) ?rests5
            case hys5 => (intro w hSw; (try dsimp only at hSw); go_simp <;> with_reducible rfl)
            try simp only [Act.put, List.setIfInBounds_toArray, List.set_cons_zero, List.set_cons_succ]
            refine take_d (i := 6) (d := some 64) (v := ?_) rfl rfl (by kernel_rfl) (by kernel_rfl) (by kernel_rfl) (fun _ _ _ h => h) (Or.inl ⟨by first | rfl | (simp [*, Region.wanted, yielded]), ?hys6⟩) (by assumption) ?rests6
            case hys6 => (intro w hSw; (try dsimp only at hSw); go_simp <;> with_reducible rfl)
            try simp only [Act.put, List.setIfInBounds_toArray, List.set_cons_zero, List.set_cons_succ]
            refine wpAnyH_ready (rs := [7]) (by kernel_rfl) (by simp) ?_
            refine AllReadyH.cons (o := _) rfl (fun K hK => ?_) AllReadyH.nil
            go_simp
            go_wp2_with fail
            refine hK.out _ _ (HKB.out _ _ pA) (fun hHeld => ?_)
            clear hK K
            try simp only [Act.put, List.setIfInBounds_toArray, List.set_cons_zero, List.set_cons_succ]
            refine wpAnyH_done (by kernel_rfl) ?_ _
            go_simp
            have HI10 := hid (HI9.out.putNew pA (Nat.le_refl _) (by omega) j (by omega) owA (by omega) HNb.out)
            have HD10 := hid ((HD9.out.below pA).keepSet ⟨G, j * 2, none⟩ (.slice A8 np.length c9) (by dsimp only; omega) hGq)
            have HR10 := hid ((HR9.out.trans (KeepIn.below pA)).trans (KeepIn.setCell (w.heap.size + 5) mI g wA ⟨G, j * 2, none⟩ (.slice A8 np.length c9) (.inr hGm)))
            rw [HPs.out] at HI10
            dsimp only at HI10
            clear owA pA qA hr9 HKA HKB HPl cxA fxA
            go_wp2
            go_roundw
            case rel => exact ⟨j + 1, m.set j (np, hs), by omega, by go_num, HN.out, HD10.out, HI10.out, HR10.out⟩
            case measure => simp [intOf]; omega
    · obtain rfl : j = its.length := by omega
      obtain ⟨b0, b1, b2, _, sy1, r0, r1, r2, rf, c0, c1, c2, _, _, _⟩ := id HDr.out
      have f0 := rf 0 (by omega)
      have f1 := rf 1 (by omega)
      have f2 := rf 2 (by omega)
      have HIs := hid (fun (u0 u1 u2 : Value) => ((HIr.out.setCell ⟨w.heap.size + 2, 0, none⟩ u0 (by dsimp only; omega)).setCell ⟨w.heap.size + 2, 1, none⟩ u1 (by dsimp only; omega)).setCell ⟨w.heap.size + 2, 2, none⟩ u2 (by dsimp only; omega))
      have HKs := hid (fun (u0 u1 u2 : Value) => ((HRr.out.trans (KeepIn.setCell _ mI g wr ⟨w.heap.size + 2, 0, none⟩ u0 (.inl (by dsimp only; omega)))).trans (KeepIn.setCell _ mI g _ ⟨w.heap.size + 2, 1, none⟩ u1 (.inl (by dsimp only; omega)))).trans (KeepIn.setCell _ mI g _ ⟨w.heap.size + 2, 2, none⟩ u2 (.inl (by dsimp only; omega))))
      have HFin := hid HDr.out.fin
      have HML := hid hml
      clear rf hml
      go_wp2
      refine bodyPost_ret (v := .tuple #[.agg #[.int .i64 P, .slice A its.length c, .slice R rls.length d], .bool true]) (by simp [results, Try.results106, go_sem, r0, r1, r2]) rfl ⟨HFin.out _ _ _, .inr ⟨m, A, c, R, d, HT.out, by rw [HML.out], fun w'' hk => ⟨?_, HRl.out _ ((HKs.out _ _ _).trans (fun b off v h1 h2 h3 h0 => hk b off v (by omega) h0)), HLH.out.1, HLH.out.2⟩⟩⟩
      obtain ⟨A', c', hv', hi'⟩ := (HIs.out _ _ _).items (by have := HML.out; omega)
      simp only [Value.slice.injEq] at hv'
      obtain ⟨rfl, _, rfl⟩ := hv'
      exact hi' w'' (fun b off v hb h0 => hk b off v (by omega) h0)
end Go.Proofs.Ytdgleicpcjfnoaa
