/- What is said by advisers of given weights: package guess. -/
import Derived.Test.YtfjncmhbpfcdiaaGuC
import Derived.Laws.Rows
set_option linter.unusedVariables false
namespace Go.Proofs.Ytfjncmhbpfcdiaa
open Go.RowKit

/-- The cells of an array of weights. -/
def wcells (f : Nat → Nat) : Array Value := #[.int .i64 (f 0), .int .i64 (f 1), .int .i64 (f 2), .int .i64 (f 3), .int .i64 (f 4), .int .i64 (f 5), .int .i64 (f 6), .int .i64 (f 7)]
theorem wcells_at (f : Nat → Nat) (i : Nat) (h : i < 8) : (wcells f)[i]? = some (.int .i64 (f i)) := by
  match i, h with
  | 0, _ => rfl
  | 1, _ => rfl
  | 2, _ => rfl
  | 3, _ => rfl
  | 4, _ => rfl
  | 5, _ => rfl
  | 6, _ => rfl
  | 7, _ => rfl
def upd (f : Nat → Nat) (k x : Nat) : Nat → Nat := fun i => if i = k then x else f i
theorem wcells_set (f : Nat → Nat) (k x : Nat) (h : k < 8) : (wcells f).setIfInBounds k (.int .i64 x) = wcells (upd f k x) := by
  match k, h with
  | 0, _ => rfl
  | 1, _ => rfl
  | 2, _ => rfl
  | 3, _ => rfl
  | 4, _ => rfl
  | 5, _ => rfl
  | 6, _ => rfl
  | 7, _ => rfl
/-- A block that holds weights. -/
def WBox (w : World) (B : Nat) (f : Nat → Nat) : Prop := w.heap[B]? = some (.cells (wcells f) 64 (0, 0))
theorem WBox.cell {w : World} {B : Nat} {f : Nat → Nat} (h : WBox w B f) (i : Nat) (hi : i < 8) : w.cell? ⟨B, i, none⟩ = some (.int .i64 (f i)) := by
  unfold WBox at h
  unfold World.cell?
  simp [h, wcells_at f i hi]
theorem WBox.frozen {w : World} {B : Nat} {f : Nat → Nat} (h : WBox w B f) (i : Nat) : w.frozen? ⟨B, i, none⟩ = false := by
  unfold WBox at h
  unfold World.frozen?
  simp [h]
theorem WBox.made (w : World) (f : Nat → Nat) : WBox (w.alloc (.cells (wcells f) 64)) w.heap.size f := by
  unfold WBox World.alloc
  simp
theorem WBox.lt {w : World} {B : Nat} {f : Nat → Nat} (h : WBox w B f) : B < w.heap.size := cell_lt (h.cell 0 (by omega))
theorem WBox.below {w w' : World} {B : Nat} {f : Nat → Nat} (h : WBox w B f) (hb : Below w.heap.size w w') : WBox w' B f := by
  unfold WBox at h ⊢
  rw [hb.block B (WBox.lt h)]; exact h

set_option maxRecDepth 100000 in
set_option maxHeartbeats 1000000 in
theorem gSay_any (f : Nat → Nat) (a : Option Addr) (l : List Bool) (cap : Nat) (w : World) (h : Marks w a l) (hl : l.length ≤ 8) (hf : ∀ i, f i ≤ 16777216) :
  Calls Try.prog 52 #[.agg (wcells f), .slice a l.length cap] w (fun en w' => w' = w.alloc (.cells (wcells f) 64) ∧ en = .returned (.bool (decide (0 < surp f l l.length)))) := by
  have HB := hid (WBox.made w f)
  have HM := hid (h.below ((Below.refl w.heap.size w).alloc (Nat.le_refl _) (.cells (wcells f) 64)))
  have HS := hid (fun k => surp_bd f l 16777216 hf k)
  have HF := hid hf
  have HD := hid (show ∀ k, surp f l (k + 1) = surp f l k + if bAt l k = true then (f k : Int) else -(f k : Int) from fun k => rfl)
  generalize hW : w.alloc (.cells (wcells f) 64) = wB at HB HM
  have HW := hid hW
  clear h hf
  go_enter Try.func52, Try.ntmps52
  go_wp2
  clear hW
  go_loop [5, 10] (fun t i => ∃ (k : Nat), k ≤ l.length ∧ i = .int .i64 k ∧ t = .int .i64 (surp f l k)) (fun _ i => l.length - (intOf i).toNat)
  case atStart => exact ⟨0, Nat.zero_le _, rfl, rfl⟩
  case round =>
    obtain ⟨k, hk, rfl, rfl⟩ := hrel
    have hsk := HS.out k
    by_cases hlt : k < l.length
    · rcases HM.out.at_ with e | ⟨b, off, rfl, hc⟩
      · rw [e] at hlt; simp at hlt
      have c0 := hc k hlt
      have c1 := HB.out.cell k (by omega)
      have hfk := HF.out k
      have HN := hid (HD.out k)
      have hk8 : k < 8 := by omega
      clear hc
      generalize surp f l k = s at *
      generalize f k = v at *
      cases hb : bAt l k with
      | true =>
        rw [hb] at c0 HN
        have HN := hid ((HN.out).trans (by rw [if_pos rfl]))
        clear hb
        go_wp2
        go_round
        case rel => exact ⟨k + 1, by omega, by go_num, by rw [HN.out]⟩
        case measure => simp [intOf]; omega
      | false =>
        rw [hb] at c0 HN
        have HN := hid ((HN.out).trans (show _ = s - (v : Int) by simp; omega))
        clear hb
        go_wp2
        go_round
        case rel => exact ⟨k + 1, by omega, by go_num, by rw [HN.out]⟩
        case measure => simp [intOf]; omega
    · obtain rfl : k = l.length := by omega
      go_wp2
      go_ret
      exact ⟨rfl, rfl⟩
end Go.Proofs.Ytfjncmhbpfcdiaa
