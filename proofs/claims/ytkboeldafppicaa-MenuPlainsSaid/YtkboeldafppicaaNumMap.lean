/- Maps from keys to numbers that a call makes, as lists of pairs. -/
import Derived.Test.YtkboeldafppicaaBase
import Derived.Maps.OwnSet
set_option linter.unusedVariables false
namespace Go.Proofs.Ytkboeldafppicaa
open Go.RowKit Go.Maps

/-- The block b is a map, with keys of the type K, that has these numbers. -/
def NumMap (w : World) (K : TypeId) (b : Nat) (l : List (Value × Int)) : Prop :=
  ∃ D : DataW Unit, w.ownsMap Try.prog K (plainElem Try.prog 3) b l.length D ∧ Maps.size D = l.length ∧
    ∀ key kl, keyOf Try.prog K key = some kl → (∀ c, (key, c) ∈ l → D.atKey kl (.lit (.int .i64 0)) = .lit (.int .i64 c) ∧ Maps.has D kl = true) ∧ ((∀ c, (key, c) ∉ l) → Maps.has D kl = false)
theorem NumMap.made (w : World) (K : TypeId) : NumMap (w.alloc (.map #[] 0)) K w.heap.size [] :=
  ⟨.map [], World.ownsMap_made _ _ _ _, rfl, fun key kl _ => ⟨fun c h => by simp at h, fun _ => rfl⟩⟩
theorem NumMap.lt {w : World} {K : TypeId} {b : Nat} {l : List (Value × Int)} (h : NumMap w K b l) : b < w.heap.size := h.elim fun _ hh => hh.1.lt
theorem NumMap.block {w w' : World} {K : TypeId} {b : Nat} {l : List (Value × Int)} (h : NumMap w K b l) (hb : w'.heap[b]? = w.heap[b]?) : NumMap w' K b l := by
  obtain ⟨D, ⟨es, clock, hh, rest⟩, r2⟩ := h
  exact ⟨D, ⟨es, clock, hb.trans hh, rest⟩, r2⟩
theorem NumMap.below {w w' : World} {K : TypeId} {b : Nat} {l : List (Value × Int)} (h : NumMap w K b l) {m : Nat} (hb : Below m w w') (hm : b < m) : NumMap w' K b l := h.block (hb.block b hm)
theorem NumMap.alloc {w : World} {K : TypeId} {b : Nat} {l : List (Value × Int)} (h : NumMap w K b l) (o : Obj) : NumMap (w.alloc o) K b l := h.block (Below.heap_alloc _ _ _ h.lt)
theorem NumMap.setCell {w : World} {K : TypeId} {b : Nat} {l : List (Value × Int)} (h : NumMap w K b l) (a : Addr) (u : Value) (ha : b ≠ a.block) : NumMap (w.setCell a u) K b l := h.block (Below.heap_setCell _ _ _ _ ha)

theorem NumMap.put {w w' : World} {K : TypeId} {b : Nat} {l : List (Value × Int)} {D : DataW Unit} (law : Keyed Try.prog K) (ht : w.ownsMap Try.prog K (plainElem Try.prog 3) b l.length D) (hs : Maps.size D = l.length)
    (hr : ∀ key kl, keyOf Try.prog K key = some kl → (∀ c, (key, c) ∈ l → D.atKey kl (.lit (.int .i64 0)) = .lit (.int .i64 c) ∧ Maps.has D kl = true) ∧ ((∀ c, (key, c) ∉ l) → Maps.has D kl = false))
    {key : Value} {kl : Lit} (hkey : keyOf Try.prog K key = some kl) (hnew : ∀ c, (key, c) ∉ l) (c : Int) (hown : w'.ownsMap Try.prog K (plainElem Try.prog 3) b (l.length + 1) (D.put kl (.lit (.int .i64 c)))) :
    NumMap w' K b (l ++ [(key, c)]) := by
  have hk := law.key hkey
  refine ⟨_, by simpa using hown, ?_, ?_⟩
  · rw [Maps.size_put (ht.tidy law), (hr key kl hkey).2 hnew, hs]; simp
  · intro key' kl' h'
    by_cases e : key' = key
    · subst e
      obtain rfl : kl' = kl := by rw [hkey] at h'; exact (Option.some.inj h').symm
      refine ⟨fun c' hc => ?_, fun hn => ?_⟩
      · rcases List.mem_append.1 hc with hc | hc
        · exact absurd hc (hnew c')
        · obtain rfl : c' = c := by simpa using hc
          exact ⟨Maps.atKey_put_same ht.isMap hk _ _, Maps.has_put_same ht.isMap hk _⟩
      · exact absurd (by simp) (hn c)
    · have hne : kl' ≠ kl := fun hh => e (law.inj (hh ▸ h') hkey)
      obtain ⟨h1, h2⟩ := hr key' kl' h'
      rw [Maps.atKey_put_other hne, Maps.has_put_other hne]
      refine ⟨fun c' hc => h1 c' ?_, fun hn => h2 fun c' hc => hn c' (by simp [hc])⟩
      rcases List.mem_append.1 hc with hc | hc
      · exact hc
      · simp at hc; exact absurd hc.1 e

section
variable {w : World} {ops : Array Oper} {rest : List Oper} {o : Oper} {a : Act} {Q : Exit → Act → World → Prop}
theorem wpList_numPut (hg : o.guard = none) (m x v : Operand) (t : TypeId) (hop : o.op = Op.mapUpdate t m x v) (K : TypeId) (law : Keyed Try.prog K) (ht : Try.prog.underlying t = some (.map K 3)) (b : Nat) (l : List (Value × Int))
    (hm : a.eval m = .map (some b)) (hown : NumMap w K b l) (hn : l.length < maxLen) (key : Value) (c : Int) (kl : Lit) (hx : a.eval x = key) (hv : a.eval v = .int .i64 c) (hwf : (Lit.int .i64 c).wf = true) (hkey : keyOf Try.prog K key = some kl) (hnew : ∀ c', (key, c') ∉ l)
    (hK : ∀ w', NumMap w' K b (l ++ [(key, c)]) → w.grownBy w' (some b) → wpList Try.prog ops Q rest (a.put o.dst undef) w') :
    wpList Try.prog ops Q (o :: rest) a w := by
  obtain ⟨D, h1, h2, h3⟩ := hown
  refine wpList_mapUpdate_own w hg m x v t hop K 3 law ht (plainElem Try.prog 3) b l.length D hm h1 hn key (.int .i64 c) kl hx hv hkey (.lit (.int .i64 c)) [] (plainElem_int Try.underlying3 hwf) ?_
  intro w' hw hg'
  exact hK w' (NumMap.put law h1 h2 h3 hkey hnew c hw) hg'
theorem wpList_numLookOk (hg : o.guard = none) (m x : Operand) (t : TypeId) (hop : o.op = Op.lookup t m x true) (K : TypeId) (law : Keyed Try.prog K) (ht : Try.prog.underlying t = some (.map K 3)) (hz : (zeroValue 3).run Try.prog w = .ok (.int .i64 0) w) (b : Nat) (l : List (Value × Int))
    (hm : a.eval m = .map (some b)) (hown : NumMap w K b l) (key : Value) (kl : Lit) (hx : a.eval x = key) (hkey : keyOf Try.prog K key = some kl)
    (hK : ∀ c bb, ((bb = true ∧ (∃ c', (key, c') ∈ l) ∧ ∀ c', (key, c') ∈ l → c' = c) ∨ (bb = false ∧ ∀ c', (key, c') ∉ l)) → wpList Try.prog ops Q rest (a.put o.dst (.tuple #[.int .i64 c, .bool bb])) w) :
    wpList Try.prog ops Q (o :: rest) a w := by
  obtain ⟨D, h1, h2, h3⟩ := hown
  refine wpList_lookup_own_ok_int w hg m x t hop K 3 .i64 law ht Try.underlying3 hz b l.length D hm h1 key kl hx hkey ?_
  intro c hat hwc
  refine hK c _ ?_
  obtain ⟨g1, g2⟩ := h3 key kl hkey
  by_cases hh : ∃ c', (key, c') ∈ l
  · refine .inl ⟨(g1 _ hh.choose_spec).2, hh, fun c' hc => ?_⟩
    have := (g1 c' hc).1
    rw [hat] at this
    simpa using this.symm
  · have hh' : ∀ c', (key, c') ∉ l := fun c' hc => hh ⟨c', hc⟩
    exact .inr ⟨g2 hh', hh'⟩
theorem wpList_numLook (hg : o.guard = none) (m x : Operand) (t : TypeId) (hop : o.op = Op.lookup t m x false) (K : TypeId) (law : Keyed Try.prog K) (ht : Try.prog.underlying t = some (.map K 3)) (hz : (zeroValue 3).run Try.prog w = .ok (.int .i64 0) w) (b : Nat) (l : List (Value × Int))
    (hm : a.eval m = .map (some b)) (hown : NumMap w K b l) (key : Value) (c : Int) (kl : Lit) (hx : a.eval x = key) (hkey : keyOf Try.prog K key = some kl) (hin : (key, c) ∈ l)
    (hK : wpList Try.prog ops Q rest (a.put o.dst (.int .i64 c)) w) :
    wpList Try.prog ops Q (o :: rest) a w := by
  obtain ⟨D, h1, h2, h3⟩ := hown
  refine wpList_lookup_own_int w hg m x t hop K 3 .i64 law ht Try.underlying3 hz b l.length D hm h1 key kl hx hkey ?_
  intro c' hat hwc
  have := ((h3 key kl hkey).1 c hin).1
  rw [hat] at this
  obtain rfl : c' = c := by simpa using this
  exact hK
theorem wpList_numLen (hg : o.guard = none) (m : Operand) (t : TypeId) (hop : o.op = Op.call { callee := Callee.builtin Builtin.len, args := #[m], argTypes := #[t] }) (K : TypeId) (ht : Try.prog.underlying t = some (.map K 3)) (b : Nat) (l : List (Value × Int))
    (hm : a.eval m = .map (some b)) (hown : NumMap w K b l) (hK : wpList Try.prog ops Q rest (a.put o.dst (.int .i64 (l.length : Int))) w) :
    wpList Try.prog ops Q (o :: rest) a w := by
  obtain ⟨D, h1, h2, h3⟩ := hown
  refine wpList_len_own w hg m t hop K 3 ht (plainElem Try.prog 3) b l.length D hm h1 ?_
  rw [h2]; exact hK
end

end Go.Proofs.Ytkboeldafppicaa
