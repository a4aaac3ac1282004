/- Ranges over functions, where the loop's body makes memory and writes to it in later rounds. -/
import Derived.Test.YtilolaednbcaoaaIter
set_option linter.unusedVariables false
namespace Go.Proofs.Ytilolaednbcaoaa
open Go.RowKit

/-- An iterator that gives the list xs. Before its first round it may make blocks, up to M'; what is made behind belongs to the loop's body. -/
def IterG {α : Type} (P : Program) (gf : Nat) (lb : Array Value) (encs : α → Array Value) (xs : List α) (V : Nat → Prop) (w0 : World) : Prop :=
  ∀ (l M : Nat) (J Jx : Nat → List α → World → Prop) (W : World), M ≤ W.heap.size → (∀ b, V b → b < M) → (∀ b, V b → W.heap[b]? = w0.heap[b]?) →
    (∀ M' p A B, J M' p A → Keeps (fun b => M ≤ b ∧ b < M') A B → J M' p B) → (∀ M' p A B, Jx M' p A → Keeps (fun b => M ≤ b ∧ b < M') A B → Jx M' p B) →
    (∀ M' pre x W1, M ≤ M' → M' ≤ W1.heap.size → (∃ suf, xs = pre ++ x :: suf) → J M' pre W1 →
      YieldAt Fence.wide 0 P l (encs x) W1 fun e W' => Keeps (fun b => (b < M ∧ ¬ V b) ∨ M' ≤ b) W1 W' ∧
        ((e = .returned (.bool true) ∧ J M' (pre ++ [x]) W') ∨ (e = .returned (.bool false) ∧ Jx M' (pre ++ [x]) W'))) →
    (∀ W1, Below M W W1 → J W1.heap.size [] W1) →
    CallsIn Fence.wide 0 P gf (#[.func (.yield l) #[] #[]] ++ lb) W fun e W' => (∃ v, e = .returned v) ∧ ∃ M', M ≤ M' ∧ M' ≤ W'.heap.size ∧ (J M' xs W' ∨ ∃ pre, pre <+: xs ∧ Jx M' pre W')

/-- The statement 'for .. := range g', at the fence that asks nothing, outermost in its function. -/
theorem wpIn_rangeG {P : Program} {α : Type} {g : Operand} {ps : Array Tmp} {assign body : Code} {Q : Exit → Act → World → Prop} {a : Act} {w : World}
    {gf : Nat} {lb : Array Value} (hg : a.eval g = .func (.func gf) #[] lb) (eg : ∀ args w, (callFunc gf args).run P w = .ok (.enter gf args) w)
    {encs : α → Array Value} {xs : List α} {V : Nat → Prop} {w0 : World} (hseq : IterG P gf lb encs xs V w0) (hV : ∀ b, V b → b < w.heap.size) (hV0 : ∀ b, V b → w.heap[b]? = w0.heap[b]?) (hps : ∀ x, (encs x).size = ps.size)
    (I : Nat → List α → World → Prop) (Ix : Nat → Code → List α → World → Prop)
    (hI : ∀ M' p A B, w.heap.size + 2 ≤ M' → I M' p A → Keeps (fun b => w.heap.size ≤ b ∧ b < M') A B → I M' p B) (hIx : ∀ M' c p A B, w.heap.size + 2 ≤ M' → Ix M' c p A → Keeps (fun b => w.heap.size ≤ b ∧ b < M') A B → Ix M' c p B) (h0 : ∀ W1, Below w.heap.size w W1 → w.heap.size + 2 ≤ W1.heap.size → I W1.heap.size [] W1)
    (hround : ∀ (l M' : Nat) (pre : List α) (x : α) (W : World), w.heap.size + 2 ≤ M' → M' ≤ W.heap.size → (∃ suf, xs = pre ++ x :: suf) → w.heap.size + 2 ≤ W.heap.size → I M' pre W →
      ∀ (Wa : World) (K : Act → World → Prop), (∀ a', body.wpIn (Fence.wide.inRound l) 0 P (ownPost (fun b => (b < w.heap.size ∧ ¬ V b) ∨ M' ≤ b) (I M') (Ix M') (pre ++ [x]) W) a' W → K a' Wa) →
      assign.wpIn (Fence.wide.inRound l) 0 P (Exit.then K (fun _ _ _ => False)) { tmps := (ps.zip (encs x)).foldl (fun t (p, v) => t.setIfInBounds p v) a.tmps, defers := [] } Wa)
    (hdone : ∀ (M' : Nat) (W : World), w.heap.size + 2 ≤ M' → w.heap.size + 2 ≤ W.heap.size → I M' xs W → W.heap[w.heap.size]? = some (.deferred (some [])) → Q .normal { a with defers := { target := .collected w.heap.size, args := #[] } :: a.defers } W)
    (hstop : ∀ (M' : Nat) (c : Code) (pre : List α) (W : World), w.heap.size + 2 ≤ M' → w.heap.size + 2 ≤ W.heap.size → pre <+: xs → Ix M' c pre W → W.heap[w.heap.size]? = some (.deferred (some [])) → c.wpIn Fence.wide 0 P Q { a with defers := { target := .collected w.heap.size, args := #[] } :: a.defers } W) :
    (Code.rangeFunc g ps assign body).wpIn Fence.wide 0 P Q a w := by
  refine wpIn_rangeFunc ?_
  intro fn hfn
  obtain ⟨rec, hrec⟩ : ∃ rec : LoopState → Option Code → Loop, rec = fun st pe => { state := st, pending := pe, fn, tmps := a.tmps, params := ps, assign, body, defers := w.heap.size } := ⟨_, rfl⟩
  obtain ⟨W1, hW1⟩ : ∃ W1, (w.alloc (.deferred (some []))).alloc (.loop (rec .ready none)) = W1 := ⟨_, rfl⟩
  have hL1 : W1.heap[w.heap.size + 1]? = some (.loop (rec .ready none)) := by
    rw [← hW1]; have := World.alloc_heap_new (w.alloc (.deferred (some []))) (.loop (rec .ready none)); rwa [World.size_alloc] at this
  have hK1 : W1.heap[w.heap.size]? = some (.deferred (some [])) := by
    rw [← hW1]; exact (Below.heap_alloc _ _ _ (by simp)).trans (World.alloc_heap_new w _)
  have hk1 : Keeps (w.heap.size ≤ ·) w W1 := by rw [← hW1]; exact ((Keeps.refl _ w).alloc _).alloc _
  have hs1 : W1.heap.size = w.heap.size + 2 := by rw [← hW1]; simp
  have hb1 : Below w.heap.size w W1 := hk1.below (Nat.le_refl _) (fun k hk hh => by have : w.heap.size ≤ k := hh; omega)
  refine ⟨w.heap.size + 1, [{ target := .collected w.heap.size, args := #[] }], W1, { target := .fn (.func gf) lb, args := #[.func (.yield (w.heap.size + 1)) #[] #[]] }, W1, gf,
    #[.func (.yield (w.heap.size + 1)) #[] #[]] ++ lb, W1, ?_, ?_, ?_, ?_, fun h => by simp [Fence.wide] at h, ?_⟩
  · rw [← hW1, hrec]; exact run_enterLoop_outer _ _ _ _ _
  · simp only [resolve, hg]
    simp [go_sem]
  · intro f' hf'; trivial
  · simp [invoke, go_sem, eg]
  · have hU : ∀ {A B : World} {M' : Nat}, Keeps (fun b => w.heap.size + 2 ≤ b ∧ b < M') A B → Keeps (fun b => w.heap.size ≤ b ∧ b < M') A B := fun h => h.weak (fun k _ hk => ⟨by have := hk.1; omega, hk.2⟩)
    have hrow : ∀ {A B : World} {k M' : Nat} {o : Obj}, Keeps (fun b => w.heap.size + 2 ≤ b ∧ b < M') A B → k < w.heap.size + 2 → A.heap[k]? = some o → B.heap[k]? = some o := fun h hk ho =>
      (h.block _ (Array.getElem?_eq_some_iff.1 ho).1 (fun hh => by have := hh.1; omega)).trans ho
    refine (hseq (w.heap.size + 1) (w.heap.size + 2)
      (fun M' pre W => w.heap.size + 2 ≤ M' ∧ I M' pre W ∧ W.heap[w.heap.size + 1]? = some (.loop (rec .ready none)) ∧ W.heap[w.heap.size]? = some (.deferred (some [])) ∧ w.heap.size + 2 ≤ W.heap.size)
      (fun M' pre W => w.heap.size + 2 ≤ M' ∧ ∃ c, Ix M' c pre W ∧ W.heap[w.heap.size + 1]? = some (.loop (rec .done (some c))) ∧ W.heap[w.heap.size]? = some (.deferred (some [])) ∧ w.heap.size + 2 ≤ W.heap.size)
      W1 (by omega) (fun b hb => by have := hV b hb; omega) (fun b hb => by rw [hk1.block b (hV b hb) (fun hh => by have := hV b hb; have : w.heap.size ≤ b := hh; omega)]; exact hV0 b hb)
      (fun M' p A B hs hk => ⟨hs.1, hI M' p A B hs.1 hs.2.1 (hU hk), hrow hk (by omega) hs.2.2.1, hrow hk (by omega) hs.2.2.2.1, Nat.le_trans hs.2.2.2.2 hk.size⟩)
      (fun M' p A B hs hk => by
        obtain ⟨hm, c, h1, h2, h3, h4⟩ := hs
        exact ⟨hm, c, hIx M' c p A B hm h1 (hU hk), hrow hk (by omega) h2, hrow hk (by omega) h3, Nat.le_trans h4 hk.size⟩)
      ?_ ?_).mono ?_
    · -- one round
      rintro M' pre x W hM1 hM2 hsuf ⟨hm, hi, hl, hk, hsz⟩
      have hy := run_yield (P := P) (args := encs x) hl (by rw [hrec]; exact hps x)
      rw [hrec] at hy
      obtain ⟨W2, hW2⟩ : ∃ W2, W.putObj (w.heap.size + 1) (.loop { rec .ready none with state := .busy }) = W2 := ⟨_, rfl⟩
      have hl2 : W2.heap[w.heap.size + 1]? = some (.loop { rec .ready none with state := .busy }) := by rw [← hW2]; exact World.putObj_heap_same (by omega)
      have hk2 : W2.heap[w.heap.size]? = some (.deferred (some [])) := by rw [← hW2]; exact (World.putObj_heap_other (by omega)).trans hk
      have hkp : ∀ U : Nat → Prop, U (w.heap.size + 1) → Keeps U W W2 := fun U hu => by rw [← hW2]; exact (Keeps.refl _ W).putObj (.inl hu) _
      have hi2 : I M' pre W2 := hI _ _ _ _ hm hi (hkp _ ⟨by omega, by omega⟩)
      have hsz2 : w.heap.size + 2 ≤ W2.heap.size := Nat.le_trans hsz (hkp (fun _ => True) trivial).size
      have hM3 : M' ≤ W2.heap.size := Nat.le_trans hM2 (hkp (fun _ => True) trivial).size
      have hVn : ¬ V (w.heap.size + 1) := fun h => by have := hV _ h; omega
      refine ⟨fn, _, assign, body, hy, roundIn_of_wpIn hfn (hround _ M' pre x W2 hm hM3 hsuf hsz2 hi2 W _ fun a' hbo => ⟨W2, ?_, ?_⟩)⟩
      · rw [← hW2]; exact run_beginRound hl (by rw [hrec])
      refine wpIn_mono hbo ?_
      have fin : ∀ (jump : Option Code) (W3 : World), Keeps (fun b => (b < w.heap.size ∧ ¬ V b) ∨ M' ≤ b) W2 W3 →
          (Instr.endRound (w.heap.size + 1) jump).run P W3 = .ok (.bool jump.isNone) (W3.putObj (w.heap.size + 1) (.loop (rec (if jump.isNone then .ready else .done) jump))) ∧
          (W3.putObj (w.heap.size + 1) (.loop (rec (if jump.isNone then .ready else .done) jump))).heap[w.heap.size + 1]? = some (.loop (rec (if jump.isNone then .ready else .done) jump)) ∧
          (W3.putObj (w.heap.size + 1) (.loop (rec (if jump.isNone then .ready else .done) jump))).heap[w.heap.size]? = some (.deferred (some [])) ∧
          w.heap.size + 2 ≤ (W3.putObj (w.heap.size + 1) (.loop (rec (if jump.isNone then .ready else .done) jump))).heap.size ∧
          Keeps (fun b => (b < w.heap.size + 2 ∧ ¬ V b) ∨ M' ≤ b) W (W3.putObj (w.heap.size + 1) (.loop (rec (if jump.isNone then .ready else .done) jump))) ∧
          Keeps (fun b => w.heap.size ≤ b ∧ b < M') W3 (W3.putObj (w.heap.size + 1) (.loop (rec (if jump.isNone then .ready else .done) jump))) := fun jump W3 hk3 => by
        have hl3 : W3.heap[w.heap.size + 1]? = some (.loop { rec .ready none with state := .busy }) := (hk3.block _ (by omega) (fun h => by rcases h with h | h; have := h.1; omega; omega)).trans hl2
        have hk4 : W3.heap[w.heap.size]? = some (.deferred (some [])) := (hk3.block _ (by omega) (fun h => by rcases h with h | h; have := h.1; omega; omega)).trans hk2
        have := run_endRound (P := P) jump hl3
        have hsz3 := hk3.size
        rw [hrec] at this ⊢
        refine ⟨this, World.putObj_heap_same (by omega), (World.putObj_heap_other (by omega)).trans hk4, by simp; omega, ?_, ?_⟩
        · exact ((hkp _ (.inl ⟨by omega, hVn⟩)).trans (hk3.weak (fun k _ hk => by rcases hk with hk | hk; exact .inl ⟨by have := hk.1; omega, hk.2⟩; exact .inr hk))).putObj (.inl (.inl ⟨by omega, hVn⟩)) _
        · exact (Keeps.refl _ W3).putObj (.inl ⟨by omega, by omega⟩) _
      rintro e a3 W3 hp
      cases e with
      | normal =>
        obtain ⟨hk3, hi3⟩ := hp
        obtain ⟨hr, hl4, hk4, hs4, hkk, hkq⟩ := fin none W3 hk3
        exact ⟨_, _, hr, hkk, .inl ⟨rfl, hm, hI _ _ _ _ hm hi3 hkq, hl4, hk4, hs4⟩⟩
      | ret =>
        obtain ⟨hk3, hi3⟩ := hp
        obtain ⟨hr, hl4, hk4, hs4, hkk, hkq⟩ := fin (some .ret) W3 hk3
        exact ⟨_, _, hr, hkk, .inr ⟨rfl, hm, .ret, hIx _ _ _ _ _ hm hi3 hkq, hl4, hk4, hs4⟩⟩
      | exit id =>
        obtain ⟨hk3, hi3⟩ := hp
        obtain ⟨hr, hl4, hk4, hs4, hkk, hkq⟩ := fin (some (.exit id)) W3 hk3
        exact ⟨_, _, hr, hkk, .inr ⟨rfl, hm, .exit id, hIx _ _ _ _ _ hm hi3 hkq, hl4, hk4, hs4⟩⟩
      | goto t =>
        obtain ⟨hk3, hi3⟩ := hp
        obtain ⟨hr, hl4, hk4, hs4, hkk, hkq⟩ := fin (some (.goto t)) W3 hk3
        exact ⟨_, _, hr, hkk, .inr ⟨rfl, hm, .goto t, hIx _ _ _ _ _ hm hi3 hkq, hl4, hk4, hs4⟩⟩
      | panic ch => exact hp.elim
      | outgrown => exact hp.elim
    · intro W2 hb2
      have hl2 : W2.heap[w.heap.size + 1]? = some (.loop (rec .ready none)) := (hb2.block _ (by omega)).trans hL1
      have hk2 : W2.heap[w.heap.size]? = some (.deferred (some [])) := (hb2.block _ (by omega)).trans hK1
      have hs2 := hb2.size
      exact ⟨by omega, h0 W2 (hb1.trans (hb2.mono (by omega))) (by omega), hl2, hk2, by omega⟩
    · -- behind the iterator
      rintro e W2 ⟨⟨v, rfl⟩, M', hM1, hM2, (⟨hm, hi, hl, hk, hsz⟩ | ⟨pre, hpre, hm, c, hi, hl, hk, hsz⟩)⟩
      · have := run_endLoop (P := P) hl (by rw [hrec]; simp)
        rw [hrec] at this
        exact ⟨none, _, this, hdone M' _ hm (by simp; omega) (hI _ _ _ _ hm hi ((Keeps.refl _ W2).putObj (.inl ⟨by omega, by omega⟩) _)) ((World.putObj_heap_other (by omega)).trans hk)⟩
      · have := run_endLoop (P := P) hl (by rw [hrec]; simp)
        rw [hrec] at this
        exact ⟨some c, _, this, hstop M' c pre _ hm (by simp; omega) hpre (hIx _ _ _ _ _ hm hi ((Keeps.refl _ W2).putObj (.inl ⟨by omega, by omega⟩) _)) ((World.putObj_heap_other (by omega)).trans hk)⟩

end Go.Proofs.Ytilolaednbcaoaa
