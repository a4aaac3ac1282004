/- Ranges over functions: a law of our own, in which the iterator may keep state of its own in cells, and the loop's body may write the caller's blocks alone. -/
import Derived.RangeFuncNested
import Derived.RangeFuncBound
import Derived.RangeFuncCalls
import Derived.RangeFuncLeaves
import Derived.Shelf.Abstract
import Derived.Shelf.RegionOpen
import Derived.WalkKit
import Derived.OwnWalkIn
import Derived.TacticsInMore
import Derived.LoopNIn
import Derived.LoopIn
set_option linter.unusedVariables false
namespace Go.Proofs.Ytilolaednbcaoaa
open Go.RowKit

/-- From A to B only blocks of U were written, and new ones made. -/
structure Keeps (U : Nat → Prop) (A B : World) : Prop where
  os : B.os = A.os
  tape : B.tape = A.tape
  output : B.output = A.output
  size : A.heap.size ≤ B.heap.size
  block : ∀ k, k < A.heap.size → ¬ U k → B.heap[k]? = A.heap[k]?

theorem Keeps.refl (U : Nat → Prop) (A : World) : Keeps U A A := ⟨rfl, rfl, rfl, Nat.le_refl _, fun _ _ _ => rfl⟩
theorem Keeps.trans {U : Nat → Prop} {A B C : World} (h : Keeps U A B) (k : Keeps U B C) : Keeps U A C :=
  ⟨k.os.trans h.os, k.tape.trans h.tape, k.output.trans h.output, Nat.le_trans h.size k.size, fun i hi hu => (k.block i (Nat.lt_of_lt_of_le hi h.size) hu).trans (h.block i hi hu)⟩
theorem Keeps.weak {U V : Nat → Prop} {A B : World} (h : Keeps U A B) (hu : ∀ k, k < A.heap.size → U k → V k) : Keeps V A B :=
  ⟨h.os, h.tape, h.output, h.size, fun i hi hv => h.block i hi (fun hh => hv (hu i hi hh))⟩
theorem Keeps.alloc {U : Nat → Prop} {A B : World} (h : Keeps U A B) (o : Obj) : Keeps U A (B.alloc o) :=
  h.trans ⟨rfl, rfl, rfl, by simp, fun k hk _ => Below.heap_alloc _ _ _ hk⟩
theorem Keeps.drewN {U : Nat → Prop} {A B : World} (h : Keeps U A B) (n : Nat) : Keeps U A (B.drewN n) :=
  h.trans ⟨rfl, rfl, rfl, Nat.le_refl _, fun k hk _ => rfl⟩
theorem Keeps.setCell {U : Nat → Prop} {A B : World} (h : Keeps U A B) {p : Addr} (hp : U p.block ∨ A.heap.size ≤ p.block) (u : Value) : Keeps U A (B.setCell p u) :=
  ⟨h.os, h.tape, h.output, by simpa [World.setCell] using h.size, fun k hk hu => by
    rw [Below.heap_setCell _ _ _ _ (fun e => by rcases hp with hp | hp; exact hu (e ▸ hp); omega)]; exact h.block k hk hu⟩
theorem Keeps.putObj {U : Nat → Prop} {A B : World} (h : Keeps U A B) {l : Nat} (hp : U l ∨ A.heap.size ≤ l) (o : Obj) : Keeps U A (B.putObj l o) :=
  ⟨h.os, h.tape, h.output, by simpa using h.size, fun k hk hu => by
    rw [World.putObj_heap_other (fun e => by rcases hp with hp | hp; exact hu (e ▸ hp); omega)]; exact h.block k hk hu⟩
theorem Keeps.of_below {U : Nat → Prop} {A B : World} (h : Below A.heap.size A B) : Keeps U A B := ⟨h.os, h.tape, h.output, h.size, fun k hk _ => h.block k hk⟩
theorem Keeps.then_below {U : Nat → Prop} {A B C : World} (h : Keeps U A B) (k : Below B.heap.size B C) : Keeps U A C := h.trans (Keeps.of_below k)
theorem Keeps.below {U : Nat → Prop} {A B : World} {n : Nat} (h : Keeps U A B) (hn : n ≤ A.heap.size) (hu : ∀ k, k < n → ¬ U k) : Below n A B :=
  ⟨h.os, h.tape, h.output, h.size, fun k hk => h.block k (by omega) (hu k hk)⟩
theorem keeps_of_below {A B : World} {n : Nat} (h : Below n A B) : Keeps (n ≤ ·) A B := ⟨h.os, h.tape, h.output, h.size, fun k hk hu => h.block k (by omega)⟩
theorem Keeps.cell {U : Nat → Prop} {A B : World} (h : Keeps U A B) {p : Addr} {v : Value} (hc : A.cell? p = some v) (hu : ¬ U p.block) : B.cell? p = some v := by
  have hlt : p.block < A.heap.size := by
    unfold World.cell? at hc
    split at hc
    · rename_i hh; exact (Array.getElem?_eq_some_iff.1 hh).1
    · cases hc
  rw [World.cell?_of_block (w := A) (h.block _ hlt hu)]; exact hc
theorem Keeps.frozen {U : Nat → Prop} {A B : World} (h : Keeps U A B) {p : Addr} (hlt : p.block < A.heap.size) (hu : ¬ U p.block) : B.frozen? p = A.frozen? p :=
  World.frozen?_of_block (w := A) (h.block _ hlt hu)

theorem heap_set1 {w : World} {o : Obj} {D : Nat} (h : w.heap[D]? = some o) (p : Addr) (v : Value) (hn : D ≠ p.block) : (w.setCell p v).heap[D]? = some o := by
  rw [Below.heap_setCell _ _ _ _ hn]; exact h
theorem heap_set2 {w : World} {o : Obj} {D : Nat} (h : w.heap[D]? = some o) (p q : Addr) (v u : Value) (hn : D ≠ p.block) (hm : D ≠ q.block) : ((w.setCell p v).setCell q u).heap[D]? = some o :=
  heap_set1 (heap_set1 h p v hn) q u hm
theorem putObj_below {B D : Nat} {w : World} (hD : B ≤ D) (o : Obj) : Below B w (w.putObj D o) :=
  ⟨rfl, rfl, rfl, by simp, fun k hk => World.putObj_heap_other (by omega)⟩
theorem putObj_cell {w : World} {D : Nat} {p : Addr} {v : Value} (h : w.cell? p = some v) (hn : p.block ≠ D) (o : Obj) : (w.putObj D o).cell? p = some v := by
  rw [World.cell?_of_block (w := w) (World.putObj_heap_other hn)]; exact h

/-- An iterator (function gf with what it captured) that gives the list xs. V: the blocks that it reads. -/
def IterC {α : Type} (P : Program) (gf : Nat) (lb : Array Value) (encs : α → Array Value) (xs : List α) (V : Nat → Prop) (w0 : World) : Prop :=
  ∀ (l M : Nat) (J Jx : List α → World → Prop) (W : World), M ≤ W.heap.size → (∀ b, V b → b < M) → (∀ b, V b → W.heap[b]? = w0.heap[b]?) →
    (∀ p A B, J p A → Keeps (M ≤ ·) A B → J p B) → (∀ p A B, Jx p A → Keeps (M ≤ ·) A B → Jx p B) →
    (∀ pre x W1, (∃ suf, xs = pre ++ x :: suf) → J pre W1 → M ≤ W1.heap.size →
      YieldAt Fence.wide 0 P l (encs x) W1 fun e W' => Keeps (fun b => b < M ∧ ¬ V b) W1 W' ∧
        ((e = .returned (.bool true) ∧ J (pre ++ [x]) W') ∨ (e = .returned (.bool false) ∧ Jx (pre ++ [x]) W'))) →
    J [] W →
    CallsIn Fence.wide 0 P gf (#[.func (.yield l) #[] #[]] ++ lb) W fun e W' => (∃ v, e = .returned v) ∧ (J xs W' ∨ ∃ pre, pre <+: xs ∧ Jx pre W')

/-- How the body of a round may be left. -/
def ownPost {α : Type} (U : Nat → Prop) (I : List α → World → Prop) (Ix : Code → List α → World → Prop) (xs : List α) (W : World) : Exit → Act → World → Prop
  | .normal, _, W' => Keeps U W W' ∧ I xs W'
  | .ret, _, W' => Keeps U W W' ∧ Ix .ret xs W'
  | .exit id, _, W' => Keeps U W W' ∧ Ix (.exit id) xs W'
  | .goto t, _, W' => Keeps U W W' ∧ Ix (.goto t) xs W'
  | .panic _, _, _ => False
  | .outgrown, _, _ => False

/-- The statement 'for .. := range g', at the fence that asks nothing, outermost in its function. -/
theorem wpIn_range {P : Program} {α : Type} {g : Operand} {ps : Array Tmp} {assign body : Code} {Q : Exit → Act → World → Prop} {a : Act} {w : World}
    {gf : Nat} {lb : Array Value} (hg : a.eval g = .func (.func gf) #[] lb) (eg : ∀ args w, (callFunc gf args).run P w = .ok (.enter gf args) w)
    {encs : α → Array Value} {xs : List α} {V : Nat → Prop} {w0 : World} (hseq : IterC P gf lb encs xs V w0) (hV : ∀ b, V b → b < w.heap.size) (hV0 : ∀ b, V b → w.heap[b]? = w0.heap[b]?) (hps : ∀ x, (encs x).size = ps.size)
    (I : List α → World → Prop) (Ix : Code → List α → World → Prop)
    (hI : ∀ p A B, I p A → Keeps (w.heap.size ≤ ·) A B → I p B) (hIx : ∀ c p A B, Ix c p A → Keeps (w.heap.size ≤ ·) A B → Ix c p B) (h0 : I [] w)
    (hround : ∀ (l : Nat) (pre : List α) (x : α) (W : World), (∃ suf, xs = pre ++ x :: suf) → w.heap.size + 2 ≤ W.heap.size → I pre W →
      ∀ (Wa : World) (K : Act → World → Prop), (∀ a', body.wpIn (Fence.wide.inRound l) 0 P (ownPost (fun b => b < w.heap.size ∧ ¬ V b) I Ix (pre ++ [x]) W) a' W → K a' Wa) →
      assign.wpIn (Fence.wide.inRound l) 0 P (Exit.then K (fun _ _ _ => False)) { tmps := (ps.zip (encs x)).foldl (fun t (p, v) => t.setIfInBounds p v) a.tmps, defers := [] } Wa)
    (hdone : ∀ (W : World), w.heap.size + 2 ≤ W.heap.size → I xs W → W.heap[w.heap.size]? = some (.deferred (some [])) → Q .normal { a with defers := { target := .collected w.heap.size, args := #[] } :: a.defers } W)
    (hstop : ∀ (c : Code) (pre : List α) (W : World), w.heap.size + 2 ≤ W.heap.size → pre <+: xs → Ix c pre W → W.heap[w.heap.size]? = some (.deferred (some [])) → c.wpIn Fence.wide 0 P Q { a with defers := { target := .collected w.heap.size, args := #[] } :: a.defers } W) :
    (Code.rangeFunc g ps assign body).wpIn Fence.wide 0 P Q a w := by
  refine wpIn_rangeFunc ?_
  intro fn hfn
  obtain ⟨rec, hrec⟩ : ∃ rec : LoopState → Option Code → Loop, rec = fun st pe => { state := st, pending := pe, fn, tmps := a.tmps, params := ps, assign, body, defers := w.heap.size } := ⟨_, rfl⟩
  obtain ⟨W1, hW1⟩ : ∃ W1, (w.alloc (.deferred (some []))).alloc (.loop (rec .ready none)) = W1 := ⟨_, rfl⟩
  have hL1 : W1.heap[w.heap.size + 1]? = some (.loop (rec .ready none)) := by
    rw [← hW1]; have := World.alloc_heap_new (w.alloc (.deferred (some []))) (.loop (rec .ready none)); rwa [World.size_alloc] at this
  have hK1 : W1.heap[w.heap.size]? = some (.deferred (some [])) := by
    rw [← hW1]; exact (Below.heap_alloc _ _ _ (by simp)).trans (World.alloc_heap_new w _)
  have hk1 : Keeps (w.heap.size ≤ ·) w W1 := by rw [← hW1]; exact ((Keeps.refl _ w).alloc _).alloc _
  have hs1 : W1.heap.size = w.heap.size + 2 := by rw [← hW1]; simp
  have hI1 : I [] W1 := hI _ _ _ h0 hk1
  refine ⟨w.heap.size + 1, [{ target := .collected w.heap.size, args := #[] }], W1, { target := .fn (.func gf) lb, args := #[.func (.yield (w.heap.size + 1)) #[] #[]] }, W1, gf,
    #[.func (.yield (w.heap.size + 1)) #[] #[]] ++ lb, W1, ?_, ?_, ?_, ?_, fun h => by simp [Fence.wide] at h, ?_⟩
  · rw [← hW1, hrec]; exact run_enterLoop_outer _ _ _ _ _
  · simp only [resolve, hg]
    simp [go_sem]
  · intro f' hf'; trivial
  · simp [invoke, go_sem, eg]
  · have hU : ∀ {A B : World}, Keeps (w.heap.size + 2 ≤ ·) A B → Keeps (w.heap.size ≤ ·) A B := fun h => h.weak (fun k _ hk => by show w.heap.size ≤ k; have : w.heap.size + 2 ≤ k := hk; omega)
    have hrow : ∀ {A B : World} {k : Nat} {o : Obj}, Keeps (w.heap.size + 2 ≤ ·) A B → k < w.heap.size + 2 → A.heap[k]? = some o → B.heap[k]? = some o := fun h hk ho =>
      (h.block _ (Array.getElem?_eq_some_iff.1 ho).1 (fun hh => by have : w.heap.size + 2 ≤ _ := hh; omega)).trans ho
    refine (hseq (w.heap.size + 1) (w.heap.size + 2)
      (fun pre W => I pre W ∧ W.heap[w.heap.size + 1]? = some (.loop (rec .ready none)) ∧ W.heap[w.heap.size]? = some (.deferred (some [])) ∧ w.heap.size + 2 ≤ W.heap.size)
      (fun pre W => ∃ c, Ix c pre W ∧ W.heap[w.heap.size + 1]? = some (.loop (rec .done (some c))) ∧ W.heap[w.heap.size]? = some (.deferred (some [])) ∧ w.heap.size + 2 ≤ W.heap.size)
      W1 (by omega) (fun b hb => by have := hV b hb; omega) (fun b hb => by rw [hk1.block b (hV b hb) (fun hh => by have := hV b hb; have : w.heap.size ≤ b := hh; omega)]; exact hV0 b hb)
      (fun p A B hs hk => ⟨hI p A B hs.1 (hU hk), hrow hk (by omega) hs.2.1, hrow hk (by omega) hs.2.2.1, Nat.le_trans hs.2.2.2 hk.size⟩)
      (fun p A B hs hk => by
        obtain ⟨c, h1, h2, h3, h4⟩ := hs
        exact ⟨c, hIx c p A B h1 (hU hk), hrow hk (by omega) h2, hrow hk (by omega) h3, Nat.le_trans h4 hk.size⟩)
      ?_ ⟨hI1, hL1, hK1, by omega⟩).mono ?_
    · -- one round
      rintro pre x W hsuf ⟨hi, hl, hk, hsz⟩ _
      have hy := run_yield (P := P) (args := encs x) hl (by rw [hrec]; exact hps x)
      rw [hrec] at hy
      obtain ⟨W2, hW2⟩ : ∃ W2, W.putObj (w.heap.size + 1) (.loop { rec .ready none with state := .busy }) = W2 := ⟨_, rfl⟩
      have hl2 : W2.heap[w.heap.size + 1]? = some (.loop { rec .ready none with state := .busy }) := by rw [← hW2]; exact World.putObj_heap_same (by omega)
      have hk2 : W2.heap[w.heap.size]? = some (.deferred (some [])) := by rw [← hW2]; exact (World.putObj_heap_other (by omega)).trans hk
      have hkp : ∀ U : Nat → Prop, U (w.heap.size + 1) → Keeps U W W2 := fun U hu => by rw [← hW2]; exact (Keeps.refl _ W).putObj (.inl hu) _
      have hi2 : I pre W2 := hI _ _ _ hi (hkp _ (by show w.heap.size ≤ w.heap.size + 1; omega))
      have hsz2 : w.heap.size + 2 ≤ W2.heap.size := Nat.le_trans hsz (hkp (fun _ => True) trivial).size
      have hVn : ¬ V (w.heap.size + 1) := fun h => by have := hV _ h; omega
      refine ⟨fn, _, assign, body, hy, roundIn_of_wpIn hfn (hround _ pre x W2 hsuf hsz2 hi2 W _ fun a' hbo => ⟨W2, ?_, ?_⟩)⟩
      · rw [← hW2]; exact run_beginRound hl (by rw [hrec])
      refine wpIn_mono hbo ?_
      have fin : ∀ (jump : Option Code) (W3 : World), Keeps (fun b => b < w.heap.size ∧ ¬ V b) W2 W3 →
          (Instr.endRound (w.heap.size + 1) jump).run P W3 = .ok (.bool jump.isNone) (W3.putObj (w.heap.size + 1) (.loop (rec (if jump.isNone then .ready else .done) jump))) ∧
          (W3.putObj (w.heap.size + 1) (.loop (rec (if jump.isNone then .ready else .done) jump))).heap[w.heap.size + 1]? = some (.loop (rec (if jump.isNone then .ready else .done) jump)) ∧
          (W3.putObj (w.heap.size + 1) (.loop (rec (if jump.isNone then .ready else .done) jump))).heap[w.heap.size]? = some (.deferred (some [])) ∧
          w.heap.size + 2 ≤ (W3.putObj (w.heap.size + 1) (.loop (rec (if jump.isNone then .ready else .done) jump))).heap.size ∧
          Keeps (fun b => b < w.heap.size + 2 ∧ ¬ V b) W (W3.putObj (w.heap.size + 1) (.loop (rec (if jump.isNone then .ready else .done) jump))) ∧
          Keeps (w.heap.size ≤ ·) W3 (W3.putObj (w.heap.size + 1) (.loop (rec (if jump.isNone then .ready else .done) jump))) := fun jump W3 hk3 => by
        have hl3 : W3.heap[w.heap.size + 1]? = some (.loop { rec .ready none with state := .busy }) := (hk3.block _ (by omega) (fun h => by have := h.1; omega)).trans hl2
        have hk4 : W3.heap[w.heap.size]? = some (.deferred (some [])) := (hk3.block _ (by omega) (fun h => by have := h.1; omega)).trans hk2
        have := run_endRound (P := P) jump hl3
        have hsz3 := hk3.size
        rw [hrec] at this ⊢
        refine ⟨this, World.putObj_heap_same (by omega), (World.putObj_heap_other (by omega)).trans hk4, by simp; omega, ?_, ?_⟩
        · exact ((hkp _ ⟨by omega, hVn⟩).trans (hk3.weak (fun k _ hk => ⟨by have := hk.1; omega, hk.2⟩))).putObj (.inl ⟨by omega, hVn⟩) _
        · exact (Keeps.refl _ W3).putObj (.inl (by show w.heap.size ≤ w.heap.size + 1; omega)) _
      rintro e a3 W3 hp
      cases e with
      | normal =>
        obtain ⟨hk3, hi3⟩ := hp
        obtain ⟨hr, hl4, hk4, hs4, hkk, hkq⟩ := fin none W3 hk3
        exact ⟨_, _, hr, hkk, .inl ⟨rfl, hI _ _ _ hi3 hkq, hl4, hk4, hs4⟩⟩
      | ret =>
        obtain ⟨hk3, hi3⟩ := hp
        obtain ⟨hr, hl4, hk4, hs4, hkk, hkq⟩ := fin (some .ret) W3 hk3
        exact ⟨_, _, hr, hkk, .inr ⟨rfl, .ret, hIx _ _ _ _ hi3 hkq, hl4, hk4, hs4⟩⟩
      | exit id =>
        obtain ⟨hk3, hi3⟩ := hp
        obtain ⟨hr, hl4, hk4, hs4, hkk, hkq⟩ := fin (some (.exit id)) W3 hk3
        exact ⟨_, _, hr, hkk, .inr ⟨rfl, .exit id, hIx _ _ _ _ hi3 hkq, hl4, hk4, hs4⟩⟩
      | goto t =>
        obtain ⟨hk3, hi3⟩ := hp
        obtain ⟨hr, hl4, hk4, hs4, hkk, hkq⟩ := fin (some (.goto t)) W3 hk3
        exact ⟨_, _, hr, hkk, .inr ⟨rfl, .goto t, hIx _ _ _ _ hi3 hkq, hl4, hk4, hs4⟩⟩
      | panic ch => exact hp.elim
      | outgrown => exact hp.elim
    · -- behind the iterator
      rintro e W2 ⟨⟨v, rfl⟩, (⟨hi, hl, hk, hsz⟩ | ⟨pre, hpre, c, hi, hl, hk, hsz⟩)⟩
      · have := run_endLoop (P := P) hl (by rw [hrec]; simp)
        rw [hrec] at this
        exact ⟨none, _, this, hdone _ (by simp; omega) (hI _ _ _ hi ((Keeps.refl _ W2).putObj (.inl (by show w.heap.size ≤ w.heap.size + 1; omega)) _)) ((World.putObj_heap_other (by omega)).trans hk)⟩
      · have := run_endLoop (P := P) hl (by rw [hrec]; simp)
        rw [hrec] at this
        exact ⟨some c, _, this, hstop c pre _ (by simp; omega) hpre (hIx _ _ _ _ hi ((Keeps.refl _ W2).putObj (.inl (by show w.heap.size ≤ w.heap.size + 1; omega)) _)) ((World.putObj_heap_other (by omega)).trans hk)⟩

end Go.Proofs.Ytilolaednbcaoaa
