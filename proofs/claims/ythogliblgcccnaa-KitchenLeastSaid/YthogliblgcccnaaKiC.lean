/- The shifts of an order: package kitchen. -/
import Derived.Test.YthogliblgcccnaaKiB
import Derived.Test.YthogliblgcccnaaRowsI
import Derived.StillTailTactics
set_option linter.unusedVariables false
namespace Go.Proofs.Ythogliblgcccnaa
open Go.RowKit

theorem shift_info : (Try.prog.info? 37).map (fun i => (i.zero, i.size, i.bytes)) = some (some (.agg #[.int .i64 0, .int .i64 0, .int .i64 0, .int .i64 0, .int .i64 0]), 5, 40) := by kernel_rfl
/-- The cells of the shift at a place. -/
def shC (o : List Int) (s : List Bt) (i : Nat) : List Value := [.int .i64 (oAt o i), .int .i64 (cookTo s i), .int .i64 (cookTo s (i + 1)), .int .i64 (max (cookTo s (i + 1)) (packTo s i)), .int .i64 (packTo s (i + 1))]
def runC (o : List Int) (s : List Bt) (k : Nat) : List Value := (List.range k).flatMap (shC o s)
theorem runC_succ (o : List Int) (s : List Bt) (k : Nat) : runC o s (k + 1) = runC o s k ++ shC o s k := by simp [runC, List.range_succ]
theorem runC_len (o : List Int) (s : List Bt) (k : Nat) : (runC o s k).length = k * 5 := by
  induction k with
  | zero => rfl
  | succ k ih => rw [runC_succ, List.length_append, ih]; simp [shC]; omega
theorem runC_at (o : List Int) (s : List Bt) (k i j : Nat) (h : i < k) (hj : j < 5) : (runC o s k)[i * 5 + j]? = (shC o s i)[j]? := by
  induction k with
  | zero => omega
  | succ k ih =>
    rw [runC_succ]
    rcases Nat.lt_or_ge i k with h1 | h1
    · rw [List.getElem?_append_left (by rw [runC_len]; omega)]; exact ih h1
    · have : i = k := by omega
      subst this
      rw [List.getElem?_append_right (by rw [runC_len]; omega), runC_len]
      congr 1; omega
theorem cookTo_bd {s : List Bt} (h : ∀ i, i < s.length → (0 ≤ (btAt s i).1 ∧ (btAt s i).1 ≤ 1000) ∧ 0 ≤ (btAt s i).2 ∧ (btAt s i).2 ≤ 1000) (k : Nat) (hk : k ≤ s.length) : 0 ≤ cookTo s k ∧ cookTo s k ≤ 1000 * k := by
  induction k with
  | zero => simp [cookTo]
  | succ k ih => have := ih (by omega); have := h k (by omega); simp only [cookTo]; omega
theorem packTo_bd {s : List Bt} (h : ∀ i, i < s.length → (0 ≤ (btAt s i).1 ∧ (btAt s i).1 ≤ 1000) ∧ 0 ≤ (btAt s i).2 ∧ (btAt s i).2 ≤ 1000) (k : Nat) (hk : k ≤ s.length) : 0 ≤ packTo s k ∧ packTo s k ≤ 2000 * k := by
  induction k with
  | zero => simp [packTo]
  | succ k ih =>
    have := ih (by omega); have := h k (by omega)
    have := cookTo_bd h (k + 1) hk
    simp only [packTo]; omega
theorem seq_ok {l : List Bt} {o : List Int} (hl : BtsOk l) (ho : IsOrd o l.length) : ∀ i, i < (seqO l o).length → (0 ≤ (btAt (seqO l o) i).1 ∧ (btAt (seqO l o) i).1 ≤ 1000) ∧ 0 ≤ (btAt (seqO l o) i).2 ∧ (btAt (seqO l o) i).2 ≤ 1000 := by
  intro i hi
  exact hl.all _ ((seqO_perm ho).subset (btAt_mem _ i hi))
theorem oAt_mem (o : List Int) (k : Nat) (h : k < o.length) : oAt o k ∈ o := by simp [oAt, h]

def NextR (w : World) (x c p : Int) (b : Bt) (en : Ending) (w' : World) : Prop := Below w.heap.size w w' ∧ en = .returned (.agg #[.int .i64 x, .int .i64 c, .int .i64 (c + b.1), .int .i64 (max (c + b.1) p), .int .i64 (max (c + b.1) p + b.2)])
set_option maxRecDepth 100000 in
set_option maxHeartbeats 1000000 in
theorem kNext_any (x0 x1 x3 c p : Int) (a : Option Addr) (l : List Bt) (cap : Nat) (n : Nat) (w : World) (h : Bts w a l) (hn : n < l.length) (hc : 0 ≤ c ∧ c ≤ 1000000) (hp : 0 ≤ p ∧ p ≤ 1000000) (hb : (0 ≤ (btAt l n).1 ∧ (btAt l n).1 ≤ 1000) ∧ 0 ≤ (btAt l n).2 ∧ (btAt l n).2 ≤ 1000) :
  Calls Try.prog 71 #[.agg #[.int .i64 x0, .int .i64 x1, .int .i64 c, .int .i64 x3, .int .i64 p], .slice a l.length cap, .int .i64 (n : Int)] w (NextR w (n : Int) c p (btAt l n)) := by
  have hlen := h.len
  rcases (h.below ((Below.refl w.heap.size w).alloc (Nat.le_refl _) (.cells #[.int .i64 x0, .int .i64 x1, .int .i64 c, .int .i64 x3, .int .i64 p] 37))).at_ with e | ⟨b, off, rfl, hcl⟩
  · rw [e] at hn; simp at hn
  obtain ⟨c0, c1⟩ := hcl n hn
  have hbl := cell_lt c0
  dsimp only at hbl
  rw [World.size_alloc] at hbl
  obtain ⟨⟨b1, b2⟩, b3, b4⟩ := hb
  obtain ⟨hc1, hc2⟩ := hc
  obtain ⟨hp1, hp2⟩ := hp
  have i0 : (0 : Int) ≤ (n : Int) := by omega
  have i1 : (n : Int) < (l.length : Int) := by omega
  have s1 : IntKind.i64.wrap (c + (btAt l n).1) = c + (btAt l n).1 := IntWalk.i64_in _ (by omega)
  clear hcl h
  generalize btAt l n = y at *
  have P1 := hid (((Below.refl w.heap.size w).alloc (Nat.le_refl _) (.cells #[.int .i64 x0, .int .i64 x1, .int .i64 c, .int .i64 x3, .int .i64 p] 37)).alloc (by simp) (.cells #[.int .i64 0, .int .i64 0, .int .i64 0, .int .i64 0, .int .i64 0] 37))
  by_cases hm : c + y.1 < p
  · have HM := hid (show max (c + y.1) p = p by omega)
    have s2 : IntKind.i64.wrap (p + y.2) = p + y.2 := IntWalk.i64_in _ (by omega)
    go_enter Try.func71, Try.ntmps71
    go_wp2_with fail
    go_quiet (fail)
    go_wp2_with fail
    go_region
    all_goals
      go_wp2
      refine bodyPost_ret (v := .agg #[.int .i64 n, .int .i64 c, .int .i64 (c + y.1), .int .i64 p, .int .i64 (p + y.2)]) (by simp [results, Try.results71, go_sem]) rfl ⟨?_, by rw [HM.out]⟩
      exact (((((below_drewN P1.out _).setCell (p := ⟨w.heap.size + 1, 0, none⟩) (Nat.le_succ _) _).setCell (p := ⟨w.heap.size + 1, 1, none⟩) (Nat.le_succ _) _).setCell (p := ⟨w.heap.size + 1, 2, none⟩) (Nat.le_succ _) _).setCell (p := ⟨w.heap.size + 1, 3, none⟩) (Nat.le_succ _) _).setCell (p := ⟨w.heap.size + 1, 4, none⟩) (Nat.le_succ _) _
  · have HM := hid (show max (c + y.1) p = c + y.1 by omega)
    have hm' : p ≤ c + y.1 := by omega
    have s2 : IntKind.i64.wrap (c + y.1 + y.2) = c + y.1 + y.2 := IntWalk.i64_in _ (by omega)
    go_enter Try.func71, Try.ntmps71
    go_wp2_with fail
    go_quiet (fail)
    go_wp2_with fail
    go_region
    all_goals
      go_wp2
      refine bodyPost_ret (v := .agg #[.int .i64 n, .int .i64 c, .int .i64 (c + y.1), .int .i64 (c + y.1), .int .i64 (c + y.1 + y.2)]) (by simp [results, Try.results71, go_sem]) rfl ⟨?_, by rw [HM.out]⟩
      exact (((((below_drewN P1.out _).setCell (p := ⟨w.heap.size + 1, 0, none⟩) (Nat.le_succ _) _).setCell (p := ⟨w.heap.size + 1, 1, none⟩) (Nat.le_succ _) _).setCell (p := ⟨w.heap.size + 1, 2, none⟩) (Nat.le_succ _) _).setCell (p := ⟨w.heap.size + 1, 3, none⟩) (Nat.le_succ _) _).setCell (p := ⟨w.heap.size + 1, 4, none⟩) (Nat.le_succ _) _
end Go.Proofs.Ythogliblgcccnaa
