/- The numbers of kinds, and the rows that the document's map of rows holds. -/
import Derived.Test.YtkboeldafppicaaAlikeM
set_option linter.unusedVariables false
namespace Go.Proofs.Ytkboeldafppicaa
open Go.RowKit Go.Maps

theorem law_row : Keyed Try.prog 157 := Keyed.of_law (deep_law_laid laidOutB (m := 3) (by omega) (of_decide_eq_true (by kernel_rfl)) (by kernel_rfl) (by kernel_rfl))
theorem row_key : Try.prog.keyType 157 = true := by kernel_rfl
theorem row_cells : Try.prog.cellsOf 157 = 7 := by kernel_rfl
theorem six_cellsR : Try.prog.cellsOf 146 = 6 := by kernel_rfl
theorem key_row (b : Bool) (x0 x1 x2 x3 x4 x5 : Int) (h0 : I64 x0) (h1 : I64 x1) (h2 : I64 x2) (h3 : I64 x3) (h4 : I64 x4) (h5 : I64 x5) :
    ∃ kl, keyOf Try.prog 157 (.agg #[.bool b, .int .i64 x0, .int .i64 x1, .int .i64 x2, .int .i64 x3, .int .i64 x4, .int .i64 x5]) = some kl := by
  have g0 := wf_of x0 h0
  have g1 := wf_of x1 h1
  have g2 := wf_of x2 h2
  have g3 := wf_of x3 h3
  have g4 := wf_of x4 h4
  have g5 := wf_of x5 h5
  obtain ⟨n, hn⟩ := types_size
  have ha : Try.prog.keyLits (n + 1 + 1 + 1) 146 [.int .i64 x0, .int .i64 x1, .int .i64 x2, .int .i64 x3, .int .i64 x4, .int .i64 x5] = some [[.int .i64 x0], [.int .i64 x1], [.int .i64 x2], [.int .i64 x3], [.int .i64 x4], [.int .i64 x5]].flatten := by
    refine keyLits_array Try.underlying146 (by rw [six_cellsR]; rfl) ?_
    rw [show List.range 6 = [0, 1, 2, 3, 4, 5] from rfl]
    simp only [List.mapM_cons, List.mapM_nil]
    simp [cells3, keyLits_int Try.underlying3 g0, keyLits_int Try.underlying3 g1, keyLits_int Try.underlying3 g2, keyLits_int Try.underlying3 g3, keyLits_int Try.underlying3 g4, keyLits_int Try.underlying3 g5]
  refine keyOf_lits Try.underlying157 row_key row_cells.symm (ls := [[.bool b], [[.int .i64 x0], [.int .i64 x1], [.int .i64 x2], [.int .i64 x3], [.int .i64 x4], [.int .i64 x5]].flatten].flatten) ?_
  refine keyLits_struct Try.underlying157 (by kernel_rfl) (by rw [row_cells]; rfl) ?_
  simp only [List.mapM_cons, List.mapM_nil, hn]
  simp [cells4, six_cellsR, keyLits_bool Try.underlying4, ha]


def knN (L : Nat) (nx : Nat → Nat → Nat) (ac : Nat → Bool) (k s : Nat) : Nat := (repsk L nx ac k (fsk L nx ac k s)).length
def knL (L : Nat) (nx : Nat → Nat → Nat) (ac : Nat → Bool) (k m : Nat) : List Int := (List.range m).map (fun s => (knN L nx ac k s : Int))
section
variable {L : Nat} {nx : Nat → Nat → Nat} {ac : Nat → Bool}
theorem knL_len (k m : Nat) : (knL L nx ac k m).length = m := by simp [knL]
theorem knL_get (k m s : Nat) (h : s < m) : (knL L nx ac k m)[s]?.getD 0 = (knN L nx ac k s : Int) := by
  unfold knL; simp [h]
theorem knL_succ (k m : Nat) : knL L nx ac k (m + 1) = knL L nx ac k m ++ [(knN L nx ac k m : Int)] := by
  unfold knL; rw [List.range_succ, List.map_append]; rfl
theorem fsk_zero (s : Nat) : fsk L nx ac 0 s = 0 := by
  rcases Nat.eq_zero_or_pos (fsk L nx ac 0 s) with e | e
  · exact e
  · have := (fsk_spec (L := L) (next := nx) (acc := ac) 0 s).2.2 0 e; simp [eqk] at this
theorem knL_zero (m : Nat) : knL L nx ac 0 m = List.replicate m 0 := by
  apply List.ext_getElem?
  intro i
  by_cases h : i < m
  · simp [knL, h, knN, fsk_zero, repsk]
  · rw [List.getElem?_eq_none (by rw [knL_len]; omega), List.getElem?_eq_none (by simp; omega)]
theorem repsk_mono (k : Nat) {a b : Nat} (h : a ≤ b) : (repsk L nx ac k a).length ≤ (repsk L nx ac k b).length := by
  induction b with
  | zero => have : a = 0 := by omega
            subst this; exact Nat.le_refl _
  | succ b ih =>
    by_cases e : a = b + 1
    · subst e; exact Nat.le_refl _
    · have := ih (by omega)
      rw [repsk_succ]; split <;> simp <;> omega
theorem knN_eq {k s t : Nat} : knN L nx ac k s = knN L nx ac k t ↔ eqk L nx ac k s t = true := by
  rw [← fsk_eq]
  have key : ∀ a b, fsk L nx ac k a = a → a < b → (repsk L nx ac k a).length < (repsk L nx ac k b).length := by
    intro a b ha hab
    have h1 := repsk_mono (L := L) (nx := nx) (ac := ac) k (show a + 1 ≤ b by omega)
    rw [repsk_succ, if_pos ha] at h1
    simp at h1; omega
  unfold knN
  constructor
  · intro h
    rcases Nat.lt_trichotomy (fsk L nx ac k s) (fsk L nx ac k t) with g | g | g
    · have := key _ _ (fsk_idem k s) g; omega
    · exact g
    · have := key _ _ (fsk_idem k t) g; omega
  · intro h; rw [h]
theorem knN_le (k s : Nat) : knN L nx ac k s ≤ s := by
  have h1 := repsk_len (L := L) (next := nx) (acc := ac) k (fsk L nx ac k s)
  have h2 := fsk_le (L := L) (next := nx) (acc := ac) k s
  unfold knN; omega
end
def vw2 (L : Nat) (nx : Nat → Nat → Nat) (ac : Nat → Bool) (k n s : Nat) : Bool × List Int := (ac s, vnum 6 (fun c => (knL L nx ac k n)[nx s c]?.getD 0) L)
theorem vw2_eq {L n k s t : Nat} {nx : Nat → Nat → Nat} {ac : Nat → Bool} (hcl : ∀ s c, s < n → c < L → nx s c < n) (hs : s < n) (ht : t < n) : vw2 L nx ac k n s = vw2 L nx ac k n t ↔ eqk L nx ac (k + 1) s t = true := by
  unfold vw2
  rw [Prod.mk.injEq, vnum_inj, eqk_succ]
  refine and_congr Iff.rfl (forall_congr' fun c => forall_congr' fun hc => ?_)
  rw [knL_get _ _ _ (hcl s c hs hc), knL_get _ _ _ (hcl t c ht hc), Int.ofNat_inj, knN_eq]
def mlist2 (L : Nat) (nx : Nat → Nat → Nat) (ac : Nat → Bool) (k n m : Nat) : List (Value × Int) := (repsk L nx ac (k + 1) m).map (fun r => (VV (vw2 L nx ac k n r), (knN L nx ac (k + 1) r : Int)))
theorem mlist2_mem {L n k m : Nat} {nx : Nat → Nat → Nat} {ac : Nat → Bool} (hcl : ∀ s c, s < n → c < L → nx s c < n) (hm : m < n) (j : Nat) (hj : j ≤ m) (c : Int) : (VV (vw2 L nx ac k n m), c) ∈ mlist2 L nx ac k n j ↔ fsk L nx ac (k + 1) m < j ∧ c = (knN L nx ac (k + 1) m : Int) := by
  unfold mlist2
  rw [List.mem_map]
  constructor
  · rintro ⟨r, hr, he⟩
    obtain ⟨h1, h2⟩ := mem_repsk.1 hr
    rw [Prod.mk.injEq] at he
    have e1 := VV_inj _ _ he.1
    have e2 := (vw2_eq hcl (by omega) hm).1 e1
    have e3 := fsk_eq.2 e2
    rw [h2] at e3
    refine ⟨by omega, ?_⟩
    rw [← he.2, knN_eq.2 e2]
  · rintro ⟨h1, rfl⟩
    have hq := (fsk_spec (L := L) (next := nx) (acc := ac) (k + 1) m).2.1
    exact ⟨fsk L nx ac (k + 1) m, mem_repsk.2 ⟨h1, fsk_idem _ _⟩, by rw [(vw2_eq hcl (by omega) hm).2 hq, knN_eq.2 hq]⟩
theorem mlist2_succ_new {L n k m : Nat} {nx : Nat → Nat → Nat} {ac : Nat → Bool} (h : fsk L nx ac (k + 1) m = m) : mlist2 L nx ac k n (m + 1) = mlist2 L nx ac k n m ++ [(VV (vw2 L nx ac k n m), (knN L nx ac (k + 1) m : Int))] := by
  unfold mlist2; rw [repsk_succ, if_pos h, List.map_append]; rfl
theorem mlist2_succ_old {L n k m : Nat} {nx : Nat → Nat → Nat} {ac : Nat → Bool} (h : fsk L nx ac (k + 1) m ≠ m) : mlist2 L nx ac k n (m + 1) = mlist2 L nx ac k n m := by
  unfold mlist2; rw [repsk_succ, if_neg h]
theorem mlist2_len (L : Nat) (nx : Nat → Nat → Nat) (ac : Nat → Bool) (k n m : Nat) : (mlist2 L nx ac k n m).length = (repsk L nx ac (k + 1) m).length := by simp [mlist2]
theorem knN_new {L k m : Nat} {nx : Nat → Nat → Nat} {ac : Nat → Bool} (h : fsk L nx ac (k + 1) m = m) : knN L nx ac (k + 1) m = (repsk L nx ac (k + 1) m).length := by unfold knN; rw [h]
theorem vw2_key (L : Nat) (nx : Nat → Nat → Nat) (ac : Nat → Bool) (k n s : Nat) (hL : L ≤ 6) (hn : n ≤ 1000000) : ∃ kl, keyOf Try.prog 157 (VV (vw2 L nx ac k n s)) = some kl := by
  have hb : ∀ x ∈ vnum 6 (fun c => (knL L nx ac k n)[nx s c]?.getD 0) L, I64 x := by
    intro x hx
    unfold vnum rowPad at hx
    rcases List.mem_append.1 hx with h | h
    · obtain ⟨c, _, rfl⟩ := List.mem_map.1 h
      by_cases hc : nx s c < n
      · rw [knL_get _ _ _ hc]
        have := knN_le (L := L) (nx := nx) (ac := ac) k (nx s c)
        unfold I64; omega
      · rw [List.getElem?_eq_none (by rw [knL_len]; omega)]; unfold I64; simp
    · rw [(List.mem_replicate.1 h).2]; unfold I64; omega
  have hl : (vnum 6 (fun c => (knL L nx ac k n)[nx s c]?.getD 0) L).length = 6 := vnum_len _ _ _ hL
  unfold vw2
  generalize vnum 6 (fun c => (knL L nx ac k n)[nx s c]?.getD 0) L = vs at *
  match vs, hl with
  | [x0, x1, x2, x3, x4, x5], _ => exact key_row _ _ _ _ _ _ _ (hb _ (by simp)) (hb _ (by simp)) (hb _ (by simp)) (hb _ (by simp)) (hb _ (by simp)) (hb _ (by simp))
end Go.Proofs.Ytkboeldafppicaa
