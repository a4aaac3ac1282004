/- The memory of the search for a tour: package van. -/
import Derived.Test.YtbffdpcogfmomaaVaRaise
set_option linter.unusedVariables false
namespace Go.Proofs.Ytbffdpcogfmomaa
open Go.RowKit

/-- What keeps all blocks but three. -/
structure Keep3 (g b2 b3 : Nat) (w w' : World) : Prop where
  os : w'.os = w.os
  tape : w'.tape = w.tape
  output : w'.output = w.output
  size : w.heap.size ≤ w'.heap.size
  block : ∀ k, k < w.heap.size → k ≠ g → k ≠ b2 → k ≠ b3 → w'.heap[k]? = w.heap[k]?
theorem Keep3.refl (g b2 b3 : Nat) (w : World) : Keep3 g b2 b3 w w := ⟨rfl, rfl, rfl, Nat.le_refl _, fun _ _ _ _ _ => rfl⟩
theorem Keep3.trans {g b2 b3 : Nat} {w w1 w2 : World} (h : Keep3 g b2 b3 w w1) (k : Keep3 g b2 b3 w1 w2) : Keep3 g b2 b3 w w2 :=
  ⟨k.os.trans h.os, k.tape.trans h.tape, k.output.trans h.output, Nat.le_trans h.size k.size, fun i hi h1 h2 h3 => (k.block i (Nat.lt_of_lt_of_le hi h.size) h1 h2 h3).trans (h.block i hi h1 h2 h3)⟩
theorem Keep3.of {g b2 b3 : Nat} {w w' : World} (h : Below w.heap.size w w') : Keep3 g b2 b3 w w' := ⟨h.os, h.tape, h.output, h.size, fun k hk _ _ _ => h.block k hk⟩
theorem Keep3.set {g b2 b3 : Nat} {w w' : World} (h : Keep3 g b2 b3 w w') (p : Addr) (u : Value) (hp : p.block = g ∨ p.block = b2 ∨ p.block = b3) : Keep3 g b2 b3 w (w'.setCell p u) := by
  have hb := (Below.refl 0 w').setCell (p := p) (Nat.zero_le _) u
  refine ⟨hb.os.trans h.os, hb.tape.trans h.tape, hb.output.trans h.output, Nat.le_trans h.size hb.size, fun k hk h1 h2 h3 => ?_⟩
  rw [heap_setCell_other w' p k u (by rcases hp with e | e | e <;> omega)]
  exact h.block k hk h1 h2 h3
theorem Keep3.below {g b2 b3 base : Nat} {w w' : World} (h : Keep3 g b2 b3 w w') (h1 : base ≤ g) (h2 : base ≤ b2) (h3 : base ≤ b3) (h4 : base ≤ w.heap.size) : Below base w w' :=
  ⟨h.os, h.tape, h.output, h.size, fun k hk => h.block k (by omega) (by omega) (by omega) (by omega)⟩
theorem Ints.keep3 {g b2 b3 : Nat} {w w' : World} {F : Option Addr} {f : List Int} (h : Ints w F f) (hk : Keep3 g b2 b3 w w') (hf : ∀ ad, F = some ad → ad.block ≠ g ∧ ad.block ≠ b2 ∧ ad.block ≠ b3) : Ints w' F f := by
  refine ⟨h.len, ?_, h.bd⟩
  rcases h.at_ with e | ⟨b, off, rfl, hc⟩
  · exact .inl e
  · refine .inr ⟨b, off, rfl, fun i hi => ?_⟩
    obtain ⟨h1, h2, h3⟩ := hf _ rfl
    rw [World.cell?_of_block (a := ⟨b, off + i, none⟩) (hk.block b (cell_lt (hc i hi)) h1 h2 h3)]
    exact hc i hi
theorem one_set {w : World} {B : Nat} {u v : Value} {t : TypeId} (h : w.heap[B]? = some (.cells #[u] t (0, 0))) : (w.setCell ⟨B, 0, none⟩ v).heap[B]? = some (.cells #[v] t (0, 0)) := by
  rw [heap_setCell_same w B 0 _ _ _ h]; rfl
theorem one_cell {w : World} {B : Nat} {u : Value} {t : TypeId} (h : w.heap[B]? = some (.cells #[u] t (0, 0))) : w.cell? ⟨B, 0, none⟩ = some u := by
  unfold World.cell?; simp [h]
theorem one_free {w : World} {B : Nat} {cs : Array Value} {t : TypeId} (h : w.heap[B]? = some (.cells cs t (0, 0))) (j : Nat) : w.frozen? ⟨B, j, none⟩ = false := by
  unfold World.frozen?; simp [h]
theorem two_cell {w : World} {B : Nat} {u v : Value} {t : TypeId} (h : w.heap[B]? = some (.cells #[u, v] t (0, 0))) : w.cell? ⟨B, 0, none⟩ = some u ∧ w.cell? ⟨B, 1, none⟩ = some v := by
  unfold World.cell?; simp [h]
theorem two_set {w : World} {B : Nat} {u v u' v' : Value} {t : TypeId} (h : w.heap[B]? = some (.cells #[u, v] t (0, 0))) : ((w.setCell ⟨B, 0, none⟩ u').setCell ⟨B, 1, none⟩ v').heap[B]? = some (.cells #[u', v'] t (0, 0)) := by
  rw [heap_setCell_same _ B 1 _ _ _ (heap_setCell_same w B 0 _ _ _ h)]; rfl

/-- What a search is about. -/
structure SrP where
  W0 : World
  L : List Int
  C : List Int → Int
  Al : List Int → Bool
  en : Int
  A : Option Addr
  cap : Nat
  g : Nat
  tv : Nat
  tb : Nat
  fv : Nat
  iv : Nat
  bv : Nat
  ev : Nat
  cb : Nat
  cf : FuncId
  caps : Array Value
  rb : Nat
  ro : Obj
namespace SrP
def costV (p : SrP) : Value := .func (.func p.cf) #[] p.caps
def tryV (p : SrP) : Value := .func (.func 94) #[] #[.pointer (some ⟨p.cb, 0, none⟩), .pointer (some ⟨p.iv, 0, none⟩), .pointer (some ⟨p.bv, 0, none⟩), .pointer (some ⟨p.ev, 0, none⟩)]
def fromV (p : SrP) : Value := .func (.func 98) #[] #[.pointer (some ⟨p.tv, 0, none⟩), .pointer (some ⟨p.tb, 0, none⟩), .pointer (some ⟨p.fv, 0, none⟩)]
end SrP
/-- Where its blocks lie. -/
structure SrD (p : SrP) : Prop where
  a : p.A = none ∨ p.A = some ⟨p.g, 0, none⟩
  lg : p.W0.heap.size ≤ p.g
  li : p.W0.heap.size ≤ p.iv
  lb : p.W0.heap.size ≤ p.bv
  gt : p.tv ≠ p.g
  gb : p.tb ≠ p.g
  gf : p.fv ≠ p.g
  ge : p.ev ≠ p.g
  gc : p.cb ≠ p.g
  gi : p.iv ≠ p.g
  gv : p.bv ≠ p.g
  it : p.tv ≠ p.iv
  ib : p.tb ≠ p.iv
  if_ : p.fv ≠ p.iv
  ie : p.ev ≠ p.iv
  ic : p.cb ≠ p.iv
  bi : p.bv ≠ p.iv
  bt : p.tv ≠ p.bv
  bb : p.tb ≠ p.bv
  bf : p.fv ≠ p.bv
  be : p.ev ≠ p.bv
  bc : p.cb ≠ p.bv
  rg : p.A = some ⟨p.g, 0, none⟩ → p.rb ≠ p.g
  ri : p.rb ≠ p.iv
  rv : p.rb ≠ p.bv
  nd : p.L.Nodup
  ll : p.L.length ≤ 7
  lb2 : ∀ x ∈ p.L, 0 ≤ x ∧ x ≤ 7
  enb : -200000 ≤ p.en ∧ p.en ≤ 200000
/-- What the function of costs answers. -/
def CostR (p : SrP) : Prop := ∀ (w : World) (A : Option Addr) (c : Nat) (o : List Int), Below p.W0.heap.size p.W0 w → Ints w A o → o.Perm p.L →
  Calls Try.prog p.cf (#[.slice A o.length c] ++ p.caps) w (fun e w' => Below w.heap.size w w' ∧ e = .returned (.tuple #[.int .i64 (p.C o), .bool (p.Al o)]))
/-- What has been found so far. -/
structure Found (p : SrP) (w : World) (s : Option Int) (u v : Value) : Prop where
  no : s = none → u = .slice none 0 0 ∧ v = .int .i64 0
  yes : ∀ m, s = some m → ∃ F c f, u = .slice F f.length c ∧ v = .int .i64 m ∧ Ints w F f ∧ (∀ ad, F = some ad → (ad.block ≠ p.g ∧ ad.block ≠ p.iv ∧ ad.block ≠ p.bv) ∧ p.tb < ad.block) ∧ f.Perm p.L ∧ p.Al f = true ∧ p.C f = m
structure SrS (p : SrP) (w : World) (o : List Int) (s : Option Int) : Prop where
  below : Below p.W0.heap.size p.W0 w
  arr : Own w p.W0.heap.size (.slice p.A o.length p.cap) o
  perm : o.Perm p.L
  gl : p.g < w.heap.size
  cR : w.heap[p.rb]? = some p.ro
  cTour : w.heap[p.tv]? = some (.cells #[.slice p.A p.L.length p.cap] 23 (0, 0))
  cTry : w.heap[p.tb]? = some (.cells #[p.tryV] 124 (0, 0))
  cFrom : w.heap[p.fv]? = some (.cells #[p.fromV] 129 (0, 0))
  cEn : w.heap[p.ev]? = some (.cells #[.int .i64 p.en] 3 (0, 0))
  cCost : w.heap[p.cb]? = some (.cells #[p.costV] 83 (0, 0))
  cIs : w.heap[p.iv]? = some (.cells #[.bool s.isSome] 4 (0, 0))
  cBest : ∃ u v, w.heap[p.bv]? = some (.cells #[u, v] 79 (0, 0)) ∧ Found p w s u v
section
variable {p : SrP}
theorem SrS.len {w : World} {o : List Int} {s : Option Int} (h : SrS p w o s) : o.length = p.L.length := h.perm.length_eq
theorem SrS.keep (hD : SrD p) {w w' : World} {o : List Int} {s : Option Int} (h : SrS p w o s) (hb : Below w.heap.size w w') : SrS p w' o s := by
  obtain ⟨u, v, h1, h2⟩ := h.cBest
  refine ⟨h.below.trans (hb.mono h.below.size), h.arr.below hb, h.perm, Nat.lt_of_lt_of_le h.gl hb.size, by rw [hb.block _ (lt_block h.cR)]; exact h.cR, by rw [hb.block _ (lt_block h.cTour)]; exact h.cTour, by rw [hb.block _ (lt_block h.cTry)]; exact h.cTry, by rw [hb.block _ (lt_block h.cFrom)]; exact h.cFrom, by rw [hb.block _ (lt_block h.cEn)]; exact h.cEn, by rw [hb.block _ (lt_block h.cCost)]; exact h.cCost, by rw [hb.block _ (lt_block h.cIs)]; exact h.cIs, u, v, by rw [hb.block _ (lt_block h1)]; exact h1, h2.no, fun m hm => ?_⟩
  obtain ⟨F, c, f, e1, e2, e3, e4⟩ := h2.yes m hm
  exact ⟨F, c, f, e1, e2, e3.below hb, e4⟩
theorem own_storeV {w : World} {base : Nat} {A : Option Addr} {g n c : Nat} {xs : List Int} (h : Own w base (.slice (some ⟨g, 0, none⟩) n c) xs) (hn : n = xs.length) (i : Nat) (x : Int) : Own (w.setCell ⟨g, i, none⟩ (.int .i64 x)) base (.slice (some ⟨g, 0, none⟩) n c) (xs.set i x) := by
  subst hn
  have := (World.ownsRow.stored h i (.int .i64 x)).1
  unfold Own
  rw [List.length_set, List.map_set]
  exact this
theorem SrS.addr (hD : SrD p) {w : World} {o : List Int} {s : Option Int} (h : SrS p w o s) (h0 : 0 < o.length) : p.A = some ⟨p.g, 0, none⟩ := by
  rcases hD.a with e | e
  · have := h.arr
    rw [e] at this
    obtain ⟨g, c, cur, hv, _⟩ := own_some this h0
    simp at hv
  · exact e
/-- Two elements are exchanged. -/
theorem SrS.swap (hD : SrD p) {w : World} {o : List Int} {s : Option Int} (h : SrS p w o s) (i j : Nat) (hi : i < o.length) (hj : j < o.length) : SrS p ((w.setCell ⟨p.g, i, none⟩ (.int .i64 (vAt o j))).setCell ⟨p.g, j, none⟩ (.int .i64 (vAt o i))) (swapV o i j) s := by
  obtain ⟨u, v, h1, h2⟩ := h.cBest
  have hA := h.addr hD (by omega)
  have hk : Keep3 p.g p.iv p.bv w ((w.setCell ⟨p.g, i, none⟩ (.int .i64 (vAt o j))).setCell ⟨p.g, j, none⟩ (.int .i64 (vAt o i))) := ((Keep3.refl p.g p.iv p.bv w).set _ _ (.inl rfl)).set _ _ (.inl rfl)
  have ot : ∀ k, k ≠ p.g → ((w.setCell ⟨p.g, i, none⟩ (.int .i64 (vAt o j))).setCell ⟨p.g, j, none⟩ (.int .i64 (vAt o i))).heap[k]? = w.heap[k]? := fun k hk => by
    rw [heap_setCell_other _ _ k _ hk, heap_setCell_other _ _ k _ hk]
  refine ⟨h.below.trans (hk.below hD.lg hD.li hD.lb h.below.size), ?_, (swapV_perm o i j hi hj).trans h.perm, Nat.lt_of_lt_of_le h.gl hk.size, by rw [ot _ (hD.rg hA)]; exact h.cR, by rw [ot _ hD.gt]; exact h.cTour, by rw [ot _ hD.gb]; exact h.cTry, by rw [ot _ hD.gf]; exact h.cFrom, by rw [ot _ hD.ge]; exact h.cEn, by rw [ot _ hD.gc]; exact h.cCost, by rw [ot _ hD.gi]; exact h.cIs, u, v, by rw [ot _ hD.gv]; exact h1, h2.no, fun m hm => ?_⟩
  · have ha := h.arr
    rw [hA] at ha ⊢
    rw [swapV_len]
    exact own_storeV (A := none) (own_storeV (A := none) ha rfl i _) (by simp) j _
  · obtain ⟨F, c, f, e1, e2, e3, e4, e5⟩ := h2.yes m hm
    exact ⟨F, c, f, e1, e2, e3.keep3 hk (fun ad had => (e4 ad had).1), e4, e5⟩
theorem swap_keep (w : World) (o : List Int) (i j : Nat) : Keep3 p.g p.iv p.bv w ((w.setCell ⟨p.g, i, none⟩ (.int .i64 (vAt o j))).setCell ⟨p.g, j, none⟩ (.int .i64 (vAt o i))) := ((Keep3.refl p.g p.iv p.bv w).set _ _ (.inl rfl)).set _ _ (.inl rfl)
/-- A better tour is kept. -/
theorem SrS.better (hD : SrD p) {w : World} {o f : List Int} {s : Option Int} {m : Int} {F : Option Addr} {c : Nat} (h : SrS p w o s) (hF : Ints w F f) (hf : ∀ ad, F = some ad → (ad.block ≠ p.g ∧ ad.block ≠ p.iv ∧ ad.block ≠ p.bv) ∧ p.tb < ad.block) (ho : f.Perm p.L) (ha : p.Al f = true) (hc : p.C f = m) :
    SrS p (((w.setCell ⟨p.bv, 0, none⟩ (.slice F f.length c)).setCell ⟨p.bv, 1, none⟩ (.int .i64 m)).setCell ⟨p.iv, 0, none⟩ (.bool true)) o (some m) ∧ Keep3 p.g p.iv p.bv w (((w.setCell ⟨p.bv, 0, none⟩ (.slice F f.length c)).setCell ⟨p.bv, 1, none⟩ (.int .i64 m)).setCell ⟨p.iv, 0, none⟩ (.bool true)) := by
  obtain ⟨u, v, h1, h2⟩ := h.cBest
  have hk : Keep3 p.g p.iv p.bv w (((w.setCell ⟨p.bv, 0, none⟩ (.slice F f.length c)).setCell ⟨p.bv, 1, none⟩ (.int .i64 m)).setCell ⟨p.iv, 0, none⟩ (.bool true)) := (((Keep3.refl p.g p.iv p.bv w).set _ _ (.inr (.inr rfl))).set _ _ (.inr (.inr rfl))).set _ _ (.inr (.inl rfl))
  have ot : ∀ k, k ≠ p.iv → k ≠ p.bv → (((w.setCell ⟨p.bv, 0, none⟩ (.slice F f.length c)).setCell ⟨p.bv, 1, none⟩ (.int .i64 m)).setCell ⟨p.iv, 0, none⟩ (.bool true)).heap[k]? = w.heap[k]? := fun k hk1 hk2 => by
    rw [heap_setCell_other _ _ k _ hk1, heap_setCell_other _ _ k _ hk2, heap_setCell_other _ _ k _ hk2]
  refine ⟨⟨h.below.trans (hk.below hD.lg hD.li hD.lb h.below.size), ?_, h.perm, Nat.lt_of_lt_of_le h.gl hk.size, by rw [ot _ hD.ri hD.rv]; exact h.cR, by rw [ot _ hD.it hD.bt]; exact h.cTour, by rw [ot _ hD.ib hD.bb]; exact h.cTry, by rw [ot _ hD.if_ hD.bf]; exact h.cFrom, by rw [ot _ hD.ie hD.be]; exact h.cEn, by rw [ot _ hD.ic hD.bc]; exact h.cCost, ?_, .slice F f.length c, .int .i64 m, ?_, ⟨fun e => (by cases e), fun m' hm' => ?_⟩⟩, hk⟩
  · have ha := h.arr
    obtain ⟨h3, h4⟩ := ha
    refine ⟨h3, ?_⟩
    rcases h4 with h4 | ⟨g', cap', cur, hv, hg', hh, r⟩
    · exact .inl h4
    · refine .inr ⟨g', cap', cur, hv, hg', ?_, r⟩
      have hgg : g' = p.g := by
        rcases hD.a with e | e
        · rw [e] at hv; simp at hv
        · rw [e] at hv
          simp only [Value.slice.injEq, Option.some.injEq, Addr.mk.injEq, and_true] at hv
          exact hv.1.symm
      rw [ot _ (by rw [hgg]; exact Ne.symm hD.gi) (by rw [hgg]; exact Ne.symm hD.gv)]; exact hh
  · have : ((w.setCell ⟨p.bv, 0, none⟩ (.slice F f.length c)).setCell ⟨p.bv, 1, none⟩ (.int .i64 m)).heap[p.iv]? = some (.cells #[.bool s.isSome] 4 (0, 0)) := by
      rw [heap_setCell_other _ _ _ _ (by exact Ne.symm hD.bi), heap_setCell_other _ _ _ _ (by exact Ne.symm hD.bi)]; exact h.cIs
    exact one_set this
  · rw [heap_setCell_other _ _ _ _ (by exact hD.bi)]; exact two_set h1
  · cases hm'
    exact ⟨F, c, f, rfl, rfl, hF.keep3 hk (fun ad had => (hf ad had).1), hf, ho, ha, hc⟩
end
/-- A search that was stopped: it has a tour that costs no more than is enough. -/
def PanR (p : SrP) (e : Ending) (w' : World) : Prop :=
  ∃ F c f, e = .panicked [{ v := .iface 79 (.agg #[.slice F f.length c, .int .i64 (p.C f)]), recovered := false }] ∧ Below p.W0.heap.size p.W0 w' ∧ Ints w' F f ∧ f.Perm p.L ∧ p.Al f = true ∧ p.C f ≤ p.en
/-- What trying does. -/
def SrR (p : SrP) (w : World) (o : List Int) (s : Option Int) (k : Nat) (e : Ending) (w' : World) : Prop :=
  (e = .returned (.tuple #[]) ∧ Keep3 p.g p.iv p.bv w w' ∧ ∃ s', Better s s' ∧ SrS p w' o s' ∧ LowV p.C p.Al o k s') ∨ PanR p e w'
end Go.Proofs.Ytbffdpcogfmomaa
