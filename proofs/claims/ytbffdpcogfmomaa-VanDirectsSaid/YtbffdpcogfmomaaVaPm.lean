/- Maps from pairs of places to numbers, as the program's distances keeps them: chapter 8. -/
import Derived.Test.YtbffdpcogfmomaaBase
import Derived.Maps.OwnSet
import Derived.DeepKeys4
set_option linter.unusedVariables false
namespace Go.Proofs.Ytbffdpcogfmomaa
open Go.RowKit Go.Maps

theorem laidOutV : laidOutB Try.prog = true := by kernel_rfl
theorem law_pairV : Keyed Try.prog 97 := Keyed.of_law (deep_law_laid laidOutV (m := 2) (by omega) (of_decide_eq_true (by kernel_rfl)) (by kernel_rfl) (by kernel_rfl))
theorem keyOf_litsV {P : Program} {k : TypeId} {fs : Array Field} (hu : P.underlying k = some (.struct fs)) (hk : P.keyType k = true) {cs : Array Value} (hlen : cs.size = P.cellsOf k) {ls : List Lit} (hl : P.keyLits (P.types.size + 1) k cs.toList = some ls) :
    ∃ kl, keyOf P k (.agg cs) = some kl := by
  unfold keyOf
  rw [hu]
  simp [hk, Value.formed, hu, hlen, Value.cells, hl]
theorem keyLits_structV {P : Program} {d : Nat} {t : TypeId} {fs : Array Field} {cs : List Value} (hu : P.underlying t = some (.struct fs)) (hall : fs.all (fun f => f.name != "_") = true) (hlen : cs.length = P.cellsOf t) {ls : List (List Lit)}
    (hm : fs.toList.mapM (fun f => P.keyLits d f.type ((cs.drop f.offset).take (P.cellsOf f.type))) = some ls) : P.keyLits (d + 1) t cs = some ls.flatten := by
  unfold Program.keyLits
  rw [hu]
  simp only
  rw [if_pos ⟨hlen, hall⟩, hm]; rfl
theorem keyLits_intV {P : Program} {d : Nat} {t : TypeId} (hu : P.underlying t = some (.int .i64)) {x : Int} (hw : (Lit.int .i64 x).wf = true) : P.keyLits (d + 1) t [.int .i64 x] = some [.int .i64 x] := by
  unfold Program.keyLits
  rw [hu]; simp [hw]
theorem types_sizeV : ∃ n, Try.prog.types.size = n + 1 + 1 + 1 := ⟨Try.prog.types.size - 3, by kernel_rfl⟩
theorem pair_key : Try.prog.keyType 97 = true := by kernel_rfl
theorem pair_cells : Try.prog.cellsOf 97 = 2 := by kernel_rfl
theorem cells3V : Try.prog.cellsOf 3 = 1 := by kernel_rfl
def prK (i j : Nat) : Value := .agg #[.int .i64 i, .int .i64 j]
theorem key_pair (i j : Nat) (hi : i < 100) (hj : j < 100) : ∃ kl, keyOf Try.prog 97 (prK i j) = some kl := by
  have h1 : (Lit.int .i64 (i : Int)).wf = true := WalkArith.wf_i64 (by omega)
  have h2 : (Lit.int .i64 (j : Int)).wf = true := WalkArith.wf_i64 (by omega)
  obtain ⟨n, hn⟩ := types_sizeV
  refine keyOf_litsV Try.underlying97 pair_key pair_cells.symm (ls := [[.int .i64 (i : Int)], [.int .i64 (j : Int)]].flatten) ?_
  refine keyLits_structV Try.underlying97 (by kernel_rfl) (by rw [pair_cells]; rfl) ?_
  simp only [List.mapM_cons, List.mapM_nil, hn]
  simp [cells3V, keyLits_intV Try.underlying3 h1, keyLits_intV Try.underlying3 h2]
theorem prK_inj {i j i2 j2 : Nat} (h : prK i j = prK i2 j2) : i = i2 ∧ j = j2 := by
  simp only [prK, Value.agg.injEq, Array.mk.injEq, List.cons.injEq, Value.int.injEq, true_and, and_true] at h
  omega
/-- The map b holds these numbers of pairs, and has been written at most n times. -/
def PMap (w : World) (b n : Nat) (F : Nat → Nat → Option Int) : Prop :=
  ∃ D : DataW Unit, w.ownsMap Try.prog 97 (plainElem Try.prog 3) b n D ∧
    ∀ i j kl, i < 100 → j < 100 → keyOf Try.prog 97 (prK i j) = some kl → ∀ c, F i j = some c → D.atKey kl (.lit (.int .i64 0)) = .lit (.int .i64 c)
theorem PMap.made (w : World) : PMap (w.alloc (.map #[] 0)) w.heap.size 0 (fun _ _ => none) :=
  ⟨.map [], World.ownsMap_made _ _ _ _, fun i j kl _ _ _ c h => by cases h⟩
theorem PMap.lt {w : World} {b n : Nat} {F : Nat → Nat → Option Int} (h : PMap w b n F) : b < w.heap.size := h.elim fun _ hh => hh.1.lt
theorem PMap.block {w w' : World} {b n : Nat} {F : Nat → Nat → Option Int} (h : PMap w b n F) (hb : w'.heap[b]? = w.heap[b]?) : PMap w' b n F := by
  obtain ⟨D, ⟨es, clock, hh, rest⟩, r2⟩ := h
  exact ⟨D, ⟨es, clock, hb.trans hh, rest⟩, r2⟩
theorem PMap.below {w w' : World} {b n : Nat} {F : Nat → Nat → Option Int} (h : PMap w b n F) (hb : Below w.heap.size w w') : PMap w' b n F := h.block (hb.block b h.lt)
theorem PMap.drewN {w : World} {b n : Nat} {F : Nat → Nat → Option Int} (h : PMap w b n F) (k : Nat) : PMap (w.drewN k) b n F := h
theorem PMap.congr {w : World} {b n : Nat} {F G : Nat → Nat → Option Int} (h : PMap w b n F) (hg : ∀ i j c, G i j = some c → F i j = some c) : PMap w b n G := by
  obtain ⟨D, h1, h2⟩ := h
  exact ⟨D, h1, fun i j kl hi hj hk c hc => h2 i j kl hi hj hk c (hg i j c hc)⟩
theorem PMap.mono {w : World} {b n m : Nat} {F : Nat → Nat → Option Int} (h : PMap w b n F) (hm : n ≤ m) : PMap w b m F := by
  obtain ⟨D, h1, h2⟩ := h
  exact ⟨D, h1.mono hm, h2⟩
theorem zero3V (w : World) : (zeroValue 3).run Try.prog w = .ok (.int .i64 0) w := by kernel_rfl
theorem PMap.look {w : World} {b n : Nat} {F : Nat → Nat → Option Int} (h : PMap w b n F) (i j : Nat) (hi : i < 100) (hj : j < 100) (c : Int) (hc : F i j = some c) : (Instr.lookup 94 (.map (some b)) (.agg #[.int .i64 i, .int .i64 j]) false).run Try.prog w = .ok (.int .i64 c) w := by
  obtain ⟨D, h1, h2⟩ := h
  obtain ⟨kl, hkey⟩ := key_pair i j hi hj
  obtain ⟨c', hrun, hat, _⟩ := h1.lookup_int law_pairV Try.underlying94 Try.underlying3 (zero3V w) hkey
  rw [h2 i j kl hi hj hkey c hc] at hat
  obtain rfl : c = c' := by simpa using hat
  exact hrun
def putF (F : Nat → Nat → Option Int) (i j : Nat) (c : Int) : Nat → Nat → Option Int := fun a b => if a = i ∧ b = j then some c else F a b
section
variable {w : World} {ops : Array Oper} {rest : List Oper} {o : Oper} {a : Act} {Q : Exit → Act → World → Prop}
theorem wpList_pairPut (hg : o.guard = none) (m x v : Operand) (t : TypeId) (hop : o.op = Op.mapUpdate t m x v) (ht : Try.prog.underlying t = some (.map 97 3)) (b n : Nat) (F : Nat → Nat → Option Int)
    (hm : a.eval m = .map (some b)) (hown : PMap w b n F) (hn : n < maxLen) (i j : Nat) (hi : i < 100) (hj : j < 100) (c : Int) (hx : a.eval x = prK i j) (hv : a.eval v = .int .i64 c) (hc : -9223372036854775808 ≤ c ∧ c ≤ 9223372036854775807)
    (hK : ∀ w', PMap w' b (n + 1) (putF F i j c) → w.grownBy w' (some b) → wpList Try.prog ops Q rest (a.put o.dst undef) w') :
    wpList Try.prog ops Q (o :: rest) a w := by
  obtain ⟨D, h1, h2⟩ := hown
  obtain ⟨kl, hkey⟩ := key_pair i j hi hj
  have hk := law_pairV.key hkey
  refine wpList_mapUpdate_own w hg m x v t hop 97 3 law_pairV ht (plainElem Try.prog 3) b n D hm h1 hn (prK i j) (.int .i64 c) kl hx hv hkey (.lit (.int .i64 c)) [] (plainElem_int Try.underlying3 (WalkArith.wf_i64 hc)) ?_
  intro w' hw hg'
  refine hK w' ⟨_, hw, fun i2 j2 kl2 hi2 hj2 hk2 c2 hc2 => ?_⟩ hg'
  unfold putF at hc2
  by_cases e : i2 = i ∧ j2 = j
  · rw [if_pos e] at hc2
    obtain ⟨rfl, rfl⟩ := e
    obtain rfl : kl2 = kl := by rw [hkey] at hk2; exact (Option.some.inj hk2).symm
    obtain rfl : c = c2 := Option.some.inj hc2
    exact Maps.atKey_put_same h1.isMap hk _ _
  · rw [if_neg e] at hc2
    have hne : kl2 ≠ kl := fun hh => e (prK_inj (law_pairV.inj (hh ▸ hk2) hkey))
    rw [Maps.atKey_put_other hne]
    exact h2 i2 j2 kl2 hi2 hj2 hk2 c2 hc2
theorem wpList_pairLook (hg : o.guard = none) (m x : Operand) (t : TypeId) (hop : o.op = Op.lookup t m x false) (ht : Try.prog.underlying t = some (.map 97 3)) (hz : (zeroValue 3).run Try.prog w = .ok (.int .i64 0) w) (b n : Nat) (F : Nat → Nat → Option Int)
    (hm : a.eval m = .map (some b)) (hown : PMap w b n F) (i j : Nat) (hi : i < 100) (hj : j < 100) (c : Int) (hx : a.eval x = prK i j) (hin : F i j = some c)
    (hK : wpList Try.prog ops Q rest (a.put o.dst (.int .i64 c)) w) :
    wpList Try.prog ops Q (o :: rest) a w := by
  obtain ⟨D, h1, h2⟩ := hown
  obtain ⟨kl, hkey⟩ := key_pair i j hi hj
  refine wpList_lookup_own_int w hg m x t hop 97 3 .i64 law_pairV ht Try.underlying3 hz b n D hm h1 (prK i j) kl hx hkey ?_
  intro c' hat hwc
  have := h2 i j kl hi hj hkey c hin
  rw [hat] at this
  obtain rfl : c' = c := by simpa using this
  exact hK
end
end Go.Proofs.Ytbffdpcogfmomaa
