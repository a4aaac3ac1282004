/- Lists of rules that are taken together out of one another: what stays of them while two boxes are written. -/
import Derived.Test.YtdgleicpcjfnoaaRCopyD
set_option linter.unusedVariables false
namespace Go.Proofs.Ytdgleicpcjfnoaa
open Go.RowKit

/-- All cells are kept, but those of two blocks. -/
def KB2 (q z : Nat) (w w' : World) : Prop := ∀ b off v, b ≠ q → b ≠ z → w.cell? ⟨b, off, none⟩ = some v → w'.cell? ⟨b, off, none⟩ = some v
theorem KB2.refl (q z : Nat) (w : World) : KB2 q z w w := fun _ _ _ _ _ h => h
theorem KB2.trans {q z : Nat} {w w1 w2 : World} (h : KB2 q z w w1) (h2 : KB2 q z w1 w2) : KB2 q z w w2 := fun b off v hq hz h0 => h2 b off v hq hz (h b off v hq hz h0)
theorem KB2.below {q z : Nat} {w w' : World} (hb : Below w.heap.size w w') : KB2 q z w w' := fun b off v _ _ h0 => (hb.cell (p := ⟨b, off, none⟩) (cell_lt h0)).trans h0
theorem KB2.setCell (q z : Nat) (w : World) (p : Addr) (u : Value) (hp : p.block = q ∨ p.block = z) : KB2 q z w (w.setCell p u) := by
  intro b off v hq hz h0
  rw [World.cell?_setCell_far _ _ _ _ (by dsimp only; omega)]
  exact h0
/-- A list of rules that reads the same whatever becomes of the two boxes. -/
def CurS (q z : Nat) (w : World) (R : Option Addr) (l : List RuleL) : Prop := ∀ w', KB2 q z w w' → RulesAt w' R l
theorem CurS.keep {q z : Nat} {w w1 : World} {R : Option Addr} {l : List RuleL} (h : CurS q z w R l) (hk : KB2 q z w w1) : CurS q z w1 R l := fun w' hk2 => h w' (hk.trans hk2)
theorem CurS.now {q z : Nat} {w : World} {R : Option Addr} {l : List RuleL} (h : CurS q z w R l) : RulesAt w R l := h w (KB2.refl _ _ _)
/-- The cells of rules, whose lists stay. -/
def RCs (q z : Nat) (w : World) (cl : List Value) (l : List RuleL) : Prop := cl.length = l.length * 2 ∧ ∀ i, i < l.length → ∃ A c, cl[i * 2]? = some (.slice A (l[i]?.getD ([], 0)).1.length c) ∧ cl[i * 2 + 1]? = some (.int .i64 (l[i]?.getD ([], 0)).2) ∧
  (∀ w', KB2 q z w w' → Ints w' A (l[i]?.getD ([], 0)).1) ∧ (-9223372036854775808 ≤ (l[i]?.getD ([], 0)).2 ∧ (l[i]?.getD ([], 0)).2 ≤ 9223372036854775807)
theorem RCs.nil (q z : Nat) (w : World) : RCs q z w [] [] := ⟨rfl, fun i hi => by simp at hi⟩
theorem RCs.keep {q z : Nat} {w w1 : World} {cl : List Value} {l : List RuleL} (h : RCs q z w cl l) (hk : KB2 q z w w1) : RCs q z w1 cl l :=
  ⟨h.1, fun i hi => by obtain ⟨A, c, h1, h2, h3, h4⟩ := h.2 i hi; exact ⟨A, c, h1, h2, fun w' hk2 => h3 w' (hk.trans hk2), h4⟩⟩
theorem RCs.append {q z : Nat} {w : World} {cl dl : List Value} {l m : List RuleL} (h : RCs q z w cl l) (k : RCs q z w dl m) : RCs q z w (cl ++ dl) (l ++ m) := by
  have h1 := h.1
  have k1 := k.1
  refine ⟨by simp [h1, k1]; omega, fun i hi => ?_⟩
  rw [List.length_append] at hi
  by_cases hlt : i < l.length
  · obtain ⟨A, c, e1, e2, e3, e4⟩ := h.2 i hlt
    have E : (l ++ m)[i]?.getD ([], 0) = l[i]?.getD ([], 0) := by rw [List.getElem?_append_left hlt]
    simp only [E]
    exact ⟨A, c, by rw [List.getElem?_append_left (by omega)]; exact e1, by rw [List.getElem?_append_left (by omega)]; exact e2, e3, e4⟩
  · obtain ⟨A, c, e1, e2, e3, e4⟩ := k.2 (i - l.length) (by omega)
    have E : (l ++ m)[i]?.getD ([], 0) = m[i - l.length]?.getD ([], 0) := by rw [List.getElem?_append_right (by omega)]
    simp only [E]
    exact ⟨A, c, by rw [List.getElem?_append_right (by omega), h1, show i * 2 - l.length * 2 = (i - l.length) * 2 by omega]; exact e1, by rw [List.getElem?_append_right (by omega), h1, show i * 2 + 1 - l.length * 2 = (i - l.length) * 2 + 1 by omega]; exact e2, e3, e4⟩
theorem RCs.take {q z : Nat} {w : World} {cl : List Value} {l : List RuleL} (h : RCs q z w cl l) (k : Nat) : RCs q z w (cl.take (k * 2)) (l.take k) := by
  have h1 := h.1
  refine ⟨by simp [h1, List.length_take]; try omega, fun i hi => ?_⟩
  rw [List.length_take] at hi
  obtain ⟨A, c, e1, e2, e3, e4⟩ := h.2 i (by omega)
  have E : (l.take k)[i]?.getD ([], 0) = l[i]?.getD ([], 0) := by rw [List.getElem?_take_of_lt (by omega)]
  simp only [E]
  exact ⟨A, c, by rw [List.getElem?_take_of_lt (by omega)]; exact e1, by rw [List.getElem?_take_of_lt (by omega)]; exact e2, e3, e4⟩
theorem RCs.drop {q z : Nat} {w : World} {cl : List Value} {l : List RuleL} (h : RCs q z w cl l) (k : Nat) : RCs q z w (cl.drop (k * 2)) (l.drop k) := by
  have h1 := h.1
  refine ⟨by simp [h1]; omega, fun i hi => ?_⟩
  rw [List.length_drop] at hi
  obtain ⟨A, c, e1, e2, e3, e4⟩ := h.2 (k + i) (by omega)
  have E : (l.drop k)[i]?.getD ([], 0) = l[k + i]?.getD ([], 0) := by rw [List.getElem?_drop]
  simp only [E]
  exact ⟨A, c, by rw [List.getElem?_drop, show k * 2 + i * 2 = (k + i) * 2 by omega]; exact e1, by rw [List.getElem?_drop, show k * 2 + (i * 2 + 1) = (k + i) * 2 + 1 by omega]; exact e2, e3, e4⟩
theorem RCs.one {q z : Nat} {w : World} {cl : List Value} {l : List RuleL} (h : RCs q z w cl l) : ∀ u ∈ cl, u.oneCell' = true := by
  intro u hu
  obtain ⟨j, hj, rfl⟩ := List.mem_iff_getElem.1 hu
  have h1 := h.1
  obtain ⟨A, c, e1, e2, _, _⟩ := h.2 (j / 2) (by omega)
  rcases (by omega : j = j / 2 * 2 ∨ j = j / 2 * 2 + 1) with e | e
  · rw [← e, List.getElem?_eq_getElem hj] at e1
    rw [Option.some.inj e1]; simp [Value.oneCell']
  · rw [← e, List.getElem?_eq_getElem hj] at e2
    rw [Option.some.inj e2]; simp [Value.oneCell']
/-- The cells of a list of rules. -/
theorem CurS.cells {q z : Nat} {w : World} {R : Option Addr} {l : List RuleL} (h : CurS q z w R l) (hl : 0 < l.length) : ∃ b off, R = some ⟨b, off, none⟩ ∧ b ≠ q ∧ b ≠ z ∧ ∃ cl, RCs q z w cl l ∧ ∀ j u, cl[j]? = some u → w.cell? ⟨b, off + j, none⟩ = some u := by
  rcases h.now.at_ with e | ⟨b, off, rfl, hc⟩
  · rw [e] at hl; simp at hl
  · have hb : ¬ (b = q ∨ b = z) := by
      intro hqz
      rcases (h (w.setCell ⟨b, off, none⟩ undef) (KB2.setCell q z w ⟨b, off, none⟩ undef hqz)).at_ with e | ⟨b', off', e, hc'⟩
      · rw [e] at hl; simp at hl
      · cases e
        obtain ⟨A', c', d0, _⟩ := hc' 0 hl
        obtain ⟨A, c, c0, _⟩ := hc 0 hl
        simp only [Nat.zero_mul, Nat.add_zero] at c0 d0
        rw [World.cell?_setCell_same _ _ _ c0] at d0
        cases d0
    refine ⟨b, off, rfl, fun e => hb (.inl e), fun e => hb (.inr e), (List.range (l.length * 2)).map (fun j => (w.cell? ⟨b, off + j, none⟩).getD undef), ⟨by simp, fun i hi => ?_⟩, fun j u hj => ?_⟩
    · obtain ⟨A, c, c0, c1, _, hbd⟩ := hc i hi
      refine ⟨A, c, ?_, ?_, fun w' hk => ?_, hbd⟩
      · simp [show i * 2 < l.length * 2 by omega, c0]
      · simp [show i * 2 + 1 < l.length * 2 by omega, ← Nat.add_assoc, c1]
      · rcases (h w' hk).at_ with e | ⟨b', off', e, hc'⟩
        · rw [e] at hi; simp at hi
        · cases e
          obtain ⟨A', c', d0, _, hA', _⟩ := hc' i hi
          have := hk b _ _ (fun e => hb (.inl e)) (fun e => hb (.inr e)) c0
          rw [d0] at this
          simp only [Option.some.injEq, Value.slice.injEq] at this
          rw [← this.1]; exact hA'
    · have hj2 := (List.getElem?_eq_some_iff.1 hj).1
      simp at hj2
      obtain ⟨A, c, c0, c1, _, _⟩ := hc (j / 2) (by omega)
      simp [hj2] at hj
      rcases (by omega : j = j / 2 * 2 ∨ j = j / 2 * 2 + 1) with e | e
      · rw [show off + j = off + j / 2 * 2 by omega, c0] at hj ⊢
        simpa using hj
      · rw [show off + j = off + j / 2 * 2 + 1 by omega, c1] at hj ⊢
        simpa using hj
/-- A row of the call's own, made out of such cells. -/
theorem CurS.made {q z base : Nat} {w : World} {l : List RuleL} {A : Option Addr} {c : Nat} {cl : List Value} (ho : w.ownsRow base 55 2 (.slice A l.length c) l.length cl) (hr : RCs q z w cl l) (hq : q < base) (hz : z < base) (hl : l.length ≤ 140737488355328) : CurS q z w A l := by
  intro w' hk
  refine ⟨hl, ?_⟩
  rcases ho.2 with ⟨hv, hn⟩ | ⟨g, c', cur, hv, hg, _⟩
  · exact .inl (List.eq_nil_of_length_eq_zero hn)
  · simp only [Value.slice.injEq] at hv
    obtain ⟨rfl, _, rfl⟩ := hv
    refine .inr ⟨g, 0, rfl, fun i hi => ?_⟩
    obtain ⟨B, d, e1, e2, e3, e4⟩ := hr.2 i hi
    exact ⟨B, d, hk g _ _ (by omega) (by omega) (by rw [Nat.zero_add]; exact row_cells ho _ _ e1), hk g _ _ (by omega) (by omega) (by rw [Nat.zero_add]; exact row_cells ho _ _ e2), e3 w' hk, e4⟩
set_option maxRecDepth 100000 in
theorem run_toR (A : Option Addr) (n c a : Nat) (ha : a ≤ n) (hn : n ≤ c) : ∃ A1 c1, (A1 = A ∨ ∃ g, A = some g ∧ A1 = some (g.add 0)) ∧ ∀ W : World, (Instr.sliceAt 23 (.slice A n c) none (some (.int .i64 (a : Int))) none).run Try.prog W = .ok (.slice A1 a c1) W := by
  obtain ⟨i0, hinf, hz0, hz1, hz2⟩ := info_parts rule_info
  refine ⟨if c = 0 then A else A.map (·.add (0 * i0.size)), c - 0, ?_, fun W => ?_⟩
  · by_cases h : c = 0
    · rw [if_pos h]; exact .inl rfl
    · rw [if_neg h]
      cases A with
      | none => exact .inl rfl
      | some g => exact .inr ⟨g, rfl, by simp⟩
  · have hb := run_sliceBound (P := Try.prog) (w := W) .i64 (a : Int) c .sliceAcap (by omega) (by omega)
    simp [Instr.sliceAt, Instr.slice, Instr.sliceBounds, run_underlying Try.underlying23, hb, sizeOf, typeInfo, hinf, go_sem]
set_option maxRecDepth 100000 in
theorem run_fromR (A : Option Addr) (n c a : Nat) (ha : a ≤ n) (hn : n ≤ c) : ∃ A1 c1, (a = n ∨ A1 = A.map (·.add (a * 2))) ∧ ∀ W : World, (Instr.sliceAt 23 (.slice A n c) (some (.int .i64 (a : Int))) none none).run Try.prog W = .ok (.slice A1 (n - a) c1) W := by
  obtain ⟨i0, hinf, hz0, hz1, hz2⟩ := info_parts rule_info
  refine ⟨if c = a then A else A.map (·.add (a * i0.size)), c - a, ?_, fun W => ?_⟩
  · by_cases h : c = a
    · exact .inl (by omega)
    · rw [if_neg h, hz1]
      exact .inr rfl
  · have hb := run_sliceBound (P := Try.prog) (w := W) .i64 (a : Int) n .sliceB (by omega) (by omega)
    simp [Instr.sliceAt, Instr.slice, Instr.sliceBounds, run_underlying Try.underlying23, hb, sizeOf, typeInfo, hinf, go_sem]
end Go.Proofs.Ytdgleicpcjfnoaa
