/- Pairs of whole numbers as keys of maps; maps of truths. -/
import Derived.Test.YtkboeldafppicaaKeys
import Derived.Test.YtkboeldafppicaaLstI
set_option linter.unusedVariables false
namespace Go.Proofs.Ytkboeldafppicaa
open Go.RowKit Go.Maps

/-- A pair of states. -/
abbrev Two := Int × Int
def V2 (s : Two) : Value := .agg #[.int .i64 s.1, .int .i64 s.2]
def cl2 (s : Two) : List Value := [.int .i64 s.1, .int .i64 s.2]
theorem V2_inj : ∀ s t, V2 s = V2 t → s = t := by
  rintro ⟨a, b⟩ ⟨c, d⟩ h
  simp only [V2, Value.agg.injEq, Array.mk.injEq, List.cons.injEq, Value.int.injEq, true_and, and_true] at h
  obtain ⟨rfl, rfl⟩ := h
  rfl
theorem law_two : Keyed Try.prog 84 := Keyed.of_law (deep_law_laid laidOutB (m := 2) (by omega) (of_decide_eq_true (by kernel_rfl)) (by kernel_rfl) (by kernel_rfl))
theorem keyOf_litsA {P : Program} {k e : TypeId} {n : Nat} (hu : P.underlying k = some (.array n e)) (hk : P.keyType k = true) {cs : Array Value} (hlen : cs.size = P.cellsOf k) {ls : List Lit} (hl : P.keyLits (P.types.size + 1) k cs.toList = some ls) :
    ∃ kl, keyOf P k (.agg cs) = some kl := by
  unfold keyOf
  rw [hu]
  simp [hk, Value.formed, hu, hlen, Value.cells, hl]
theorem two_key : Try.prog.keyType 84 = true := by kernel_rfl
theorem two_cells : Try.prog.cellsOf 84 = 2 := by kernel_rfl
theorem key_two (s : Two) (h0 : I64 s.1) (h1 : I64 s.2) : ∃ kl, keyOf Try.prog 84 (V2 s) = some kl := by
  obtain ⟨a, b⟩ := s
  have g0 := wf_of a h0
  have g1 := wf_of b h1
  obtain ⟨n, hn⟩ := types_size
  refine keyOf_litsA Try.underlying84 two_key two_cells.symm (ls := [[.int .i64 a], [.int .i64 b]].flatten) ?_
  rw [hn]
  refine keyLits_array Try.underlying84 (by rw [two_cells]; rfl) ?_
  rw [show List.range 2 = [0, 1] from rfl]
  simp only [List.mapM_cons, List.mapM_nil]
  simp [cells3, keyLits_int Try.underlying3 g0, keyLits_int Try.underlying3 g1]
theorem key_pair2 (a b : Int) (h0 : I64 a) (h1 : I64 b) : ∃ kl, keyOf Try.prog 84 (.agg #[.int .i64 a, .int .i64 b]) = some kl := key_two (a, b) h0 h1
/-- The block b is a map, with keys of the type K, in which these are true, and nothing else. -/
def BMap (w : World) (K : TypeId) (b : Nat) (l : List Value) : Prop :=
  ∃ D : DataW Unit, w.ownsMap Try.prog K (plainElem Try.prog 4) b l.length D ∧
    ∀ key kl, keyOf Try.prog K key = some kl → (key ∈ l → D.atKey kl (.lit (.bool false)) = .lit (.bool true)) ∧ (key ∉ l → D.atKey kl (.lit (.bool false)) = .lit (.bool false))
theorem BMap.made (w : World) (K : TypeId) : BMap (w.alloc (.map #[] 0)) K w.heap.size [] :=
  ⟨.map [], World.ownsMap_made _ _ _ _, fun key kl _ => ⟨fun h => by simp at h, fun _ => rfl⟩⟩
theorem BMap.lt {w : World} {K : TypeId} {b : Nat} {l : List Value} (h : BMap w K b l) : b < w.heap.size := h.elim fun _ hh => hh.1.lt
theorem BMap.block {w w' : World} {K : TypeId} {b : Nat} {l : List Value} (h : BMap w K b l) (hb : w'.heap[b]? = w.heap[b]?) : BMap w' K b l := by
  obtain ⟨D, ⟨es, clock, hh, rest⟩, r2⟩ := h
  exact ⟨D, ⟨es, clock, hb.trans hh, rest⟩, r2⟩
theorem BMap.below {w w' : World} {K : TypeId} {b : Nat} {l : List Value} (h : BMap w K b l) {m : Nat} (hb : Below m w w') (hm : b < m) : BMap w' K b l := h.block (hb.block b hm)
theorem zero4M (w : World) : (zeroValue 4).run Try.prog w = .ok (.bool false) w := by kernel_rfl
theorem plainElem_bool_inv {H : Type} {P : Program} {e : TypeId} (he : P.underlying e = some .bool) {v : Value} {z : DataW H × List MemPlace} (h : plainElem P e v = some z) : ∃ x, v = .bool x ∧ z = (.lit (.bool x), []) := by
  unfold plainElem at h
  rw [he] at h
  cases v <;> simp at h
  obtain rfl := h
  exact ⟨_, rfl, rfl⟩
section
variable {w : World} {K t : TypeId} {b : Nat} {l : List Value} {key : Value} {kl : Lit}
theorem BMap.look (h : BMap w K b l) (law : Keyed Try.prog K) (ht : Try.prog.underlying t = some (.map K 4)) (hkey : keyOf Try.prog K key = some kl) (x : Bool) (hx : x = true ↔ key ∈ l) :
    (Instr.lookup t (.map (some b)) key false).run Try.prog w = .ok (.bool x) w := by
  obtain ⟨D, h1, h2⟩ := h
  obtain ⟨v, ps, hrun, hv⟩ := h1.lookup law ht (zero4M w) (plainElem_bool Try.underlying4 false) hkey
  obtain ⟨y, rfl, hy⟩ := plainElem_bool_inv Try.underlying4 hv
  simp only [Prod.mk.injEq] at hy
  obtain ⟨g1, g2⟩ := h2 key kl hkey
  have : y = x := by
    cases x with
    | true => have := (g1 (hx.1 rfl)).symm.trans hy.1; simpa using this.symm
    | false => have := (g2 (fun hh => by have := hx.2 hh; cases this)).symm.trans hy.1; simpa using this.symm
  rw [this] at hrun
  exact hrun
theorem BMap.store (h : BMap w K b l) (law : Keyed Try.prog K) (ht : Try.prog.underlying t = some (.map K 4)) (hkey : keyOf Try.prog K key = some kl) (hn : l.length < maxLen) :
    ∃ w', (Instr.mapUpdate t (.map (some b)) key (.bool true)).run Try.prog w = .ok () w' ∧ BMap w' K b (l ++ [key]) ∧ w.grownBy w' (some b) := by
  obtain ⟨D, h1, h2⟩ := h
  obtain ⟨w', hrun, r1, r2⟩ := h1.update law ht hn hkey (plainElem_bool Try.underlying4 true)
  have hk := law.key hkey
  refine ⟨w', hrun, ⟨_, by simpa using r1, fun key' kl' h' => ?_⟩, r2⟩
  by_cases e : key' = key
  · subst e
    obtain rfl : kl' = kl := by rw [hkey] at h'; exact (Option.some.inj h').symm
    exact ⟨fun _ => Maps.atKey_put_same h1.isMap hk _ _, fun hn => absurd (by simp) hn⟩
  · have hne : kl' ≠ kl := fun hh => e (law.inj (hh ▸ h') hkey)
    obtain ⟨g1, g2⟩ := h2 key' kl' h'
    rw [Maps.atKey_put_other hne]
    refine ⟨fun hm => g1 ?_, fun hm => g2 (fun hh => hm (by simp [hh]))⟩
    rcases List.mem_append.1 hm with h | h
    · exact h
    · simp at h; exact absurd h e
end
end Go.Proofs.Ytkboeldafppicaa
