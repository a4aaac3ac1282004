/- A shortest tour: package van. -/
import Derived.Test.YtbffdpcogfmomaaVaSr3
import Derived.Tactics2
import Derived.Defers
import Derived.Recover
set_option linter.unusedVariables false
namespace Go.Proofs.Ytbffdpcogfmomaa
open Go.RowKit

/-- The costs of Tour: the length. -/
theorem tourCost {W0 : World} {t : Tbl} {a : Option Addr} {cap wb : Nat} (hT : TabAt W0 a t) (ht : Ways t) (hb : W0.cell? ⟨wb, 0, none⟩ = some (.slice a t.length cap)) :
    CostQ W0 (stopsL t.length) (tourL t) (fun _ => true) 64 #[.pointer (some ⟨wb, 0, none⟩)] := by
  intro w A c o hbel hI hp
  have ho : IsTour o t.length := hp
  have hol := ho.len
  have hl7 := ht.len
  have k1 := (hbel.cell (cell_lt hb)).trans hb
  have HL := hid (vLength_any a A t o cap c w (hT.below hbel) hI ht ho.stops (by omega))
  clear hT ht hbel hI hp ho hb hol
  show Calls Try.prog 64 #[.slice A o.length c, .pointer (some ⟨wb, 0, none⟩)] w _
  generalize o.length = n at *
  go_enter Try.func64, Try.ntmps64
  go_wp2_with fail
  refine HL.out.mono ?_
  rintro e w1 ⟨rfl, rfl⟩
  go_wp2
  go_ret2
  exact ⟨Below.refl _ _, rfl⟩
theorem ta_hit (v : Value) (w : World) : (Instr.typeAssert (.iface 79 v) 20 79 true).run Try.prog w = .ok (.tuple #[v, .bool true]) w := by
  simp [Instr.typeAssert, run_underlying Try.underlying79, go_sem]
theorem ta_nil (w : World) : (Instr.typeAssert .nilIface 20 79 true).run Try.prog w = .ok (.tuple #[.agg #[.slice none 0 0, .int .i64 0], .bool false]) w := by
  simp [Instr.typeAssert, run_underlying Try.underlying79, go_sem]
theorem catch_panicking (tb : Nat) (x : Value) (F : Option Addr) (k c : Nat) (m : Int) (w : World) (hc : w.cell? ⟨tb, 0, none⟩ = some x) (hz : w.frozen? ⟨tb, 0, none⟩ = false) :
    CallsD Try.prog 61 #[.pointer (some ⟨tb, 0, none⟩)] (.panicking [{ v := .iface 79 (.agg #[.slice F k c, .int .i64 m]), recovered := false }]) w fun e u' w' =>
      e = .returned (.tuple #[]) ∧ u' = .panicking [{ v := .iface 79 (.agg #[.slice F k c, .int .i64 m]), recovered := true }] ∧ w' = (w.alloc (.cells #[.slice F k c, .int .i64 m] 79)).setCell ⟨tb, 0, none⟩ (.slice F k c) := by
  have hta := ta_hit (.agg #[.slice F k c, .int .i64 m])
  refine callsD_of_wpS Try.func61 rfl fun c₀ cs hu => ?_
  simp only [Try.ntmps61, List.size_toArray, List.length_cons, List.length_nil, Nat.reduceAdd, Nat.reduceSub, Array.replicate_succ, Array.replicate_zero, List.push_toArray, List.append_toArray, List.nil_append, List.cons_append]
  apply wpS_seq
  apply wpS_region
  simp [wpOpsS, go_sem, recoverD, hu, hta, Exit.thenS]
  have hlt := cell_lt hc
  have hc' : (w.alloc (.cells #[.slice F k c, .int .i64 m] 79)).cell? ⟨tb, 0, none⟩ = some x := ((Below.refl _ w).alloc (Nat.le_refl _) _).cell (p := ⟨tb, 0, none⟩) hlt |>.trans hc
  have hz' : (w.alloc (.cells #[.slice F k c, .int .i64 m] 79)).frozen? ⟨tb, 0, none⟩ = false := ((Below.refl _ w).alloc (Nat.le_refl _) _).frozen (p := ⟨tb, 0, none⟩) hlt |>.trans hz
  have hn := (two_cell (heap_alloc_new w (.cells #[.slice F k c, .int .i64 m] 79))).1
  generalize w.alloc (.cells #[.slice F k c, .int .i64 m] 79) = w1 at *
  apply wpS_seq
  apply wpS_region
  simp [wpOpsS, go_sem, Exit.thenS]
  refine wpS_cond (t := true) (by simp [Act.eval]) ?_
  simp only [if_true]
  apply wpS_region
  simp [wpOpsS, go_sem, hc', hz', hn, bodyPostS, results, Try.results61]
theorem catch_idle (tb : Nat) (w : World) :
    CallsD Try.prog 61 #[.pointer (some ⟨tb, 0, none⟩)] .returning w fun e u' w' =>
      e = .returned (.tuple #[]) ∧ u' = .returning ∧ w' = w.alloc (.cells #[.slice none 0 0, .int .i64 0] 79) := by
  have hta := ta_nil
  refine callsD_of_wpS Try.func61 rfl fun c₀ cs hu => ?_
  simp only [Try.ntmps61, List.size_toArray, List.length_cons, List.length_nil, Nat.reduceAdd, Nat.reduceSub, Array.replicate_succ, Array.replicate_zero, List.push_toArray, List.append_toArray, List.nil_append, List.cons_append]
  apply wpS_seq
  apply wpS_region
  simp [wpOpsS, go_sem, recoverD, hu, hta, Exit.thenS]
  generalize w.alloc (.cells #[.slice none 0 0, .int .i64 0] 79) = w1 at *
  apply wpS_seq
  apply wpS_region
  simp [wpOpsS, go_sem, Exit.thenS]
  refine wpS_cond (t := false) (by simp [Act.eval]) ?_
  simp only [Bool.false_eq_true, if_false]
  refine wpS_of_wp (wp_skip ?_)
  cases c₀
  simp_all [bodyPostS, results, Try.results61]
/-- What Tour answers. -/
def TourR (t : Tbl) (w : World) (en : Ending) (w' : World) : Prop :=
  Below w.heap.size w w' ∧ ((vaV t ≠ 0 ∧ en = .returned (.tuple #[.slice none 0 0, .int .i64 (vaV t)])) ∨
    (vaV t = 0 ∧ ∃ F c f, en = .returned (.tuple #[.slice F f.length c, .int .i64 0]) ∧ Ints w' F f ∧ IsTour f t.length ∧ ∀ q, IsTour q t.length → tourL t f ≤ tourL t q))
theorem alloc2 (w : World) (o0 o1 : Obj) : ((w.alloc o0).alloc o1).heap[w.heap.size]? = some o0 ∧ ((w.alloc o0).alloc o1).heap[w.heap.size + 1]? = some o1 ∧ Below w.heap.size w ((w.alloc o0).alloc o1) ∧ ((w.alloc o0).alloc o1).heap.size = w.heap.size + 2 := by
  have b1 := (Below.refl w.heap.size w).alloc (Nat.le_refl _) o0
  have s1 : (w.alloc o0).heap.size = w.heap.size + 1 := by simp
  refine ⟨?_, ?_, b1.alloc (by omega) o1, by simp⟩
  · rw [((Below.refl _ (w.alloc o0)).alloc (Nat.le_refl _) o1).block _ (by omega)]; exact heap_alloc_new w o0
  · rw [← s1]; exact heap_alloc_new _ o1
end Go.Proofs.Ytbffdpcogfmomaa
