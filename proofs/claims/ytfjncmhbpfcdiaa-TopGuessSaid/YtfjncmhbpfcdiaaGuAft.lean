/- The weights after one more round: package guess. -/
import Derived.Test.YtfjncmhbpfcdiaaGuW
set_option linter.unusedVariables false
namespace Go.Proofs.Ytfjncmhbpfcdiaa
open Go.RowKit

def aftTo (r : Rnd) (f : Nat → Nat) (k : Nat) : Nat → Nat := fun i => if i < k ∧ bad r i = true then f i / 2 else f i
theorem aftTo_zero (r : Rnd) (f : Nat → Nat) : aftTo r f 0 = f := funext fun i => if_neg (by omega)
theorem aftTo_yes (r : Rnd) (f : Nat → Nat) (k : Nat) (h : bad r k = true) : aftTo r f (k + 1) = upd (aftTo r f k) k (f k / 2) := by
  funext i
  unfold aftTo upd
  by_cases h1 : i = k
  · subst h1; simp [h]
  · rw [if_neg h1]
    by_cases h2 : i < k
    · simp [h2, show i < k + 1 by omega]
    · simp [h2, show ¬ i < k + 1 by omega]
theorem aftTo_no (r : Rnd) (f : Nat → Nat) (k : Nat) (h : bad r k = false) : aftTo r f (k + 1) = aftTo r f k := by
  funext i
  unfold aftTo
  by_cases h1 : i = k
  · subst h1; simp [h]
  · by_cases h2 : i < k
    · simp [h2, show i < k + 1 by omega]
    · simp [h2, show ¬ i < k + 1 by omega]
theorem aftTo_at (r : Rnd) (f : Nat → Nat) (k : Nat) : aftTo r f k k = f k := if_neg (by omega)
theorem WBox.set {w : World} {B : Nat} {f : Nat → Nat} (h : WBox w B f) (k x : Nat) (hk : k < 8) : WBox (w.setCell ⟨B, k, none⟩ (.int .i64 x)) B (upd f k x) := by
  unfold WBox at h ⊢
  rw [heap_setCell_same w B k _ _ _ h, wcells_set f k x hk]
theorem WBox.other {w : World} {B : Nat} {f : Nat → Nat} (h : WBox w B f) (p : Addr) (v : Value) (hp : B ≠ p.block) : WBox (w.setCell p v) B f := by
  unfold WBox at h ⊢
  rw [heap_setCell_other w p B v hp]; exact h
/-- Eight stores into one block. -/
def set8 (w : World) (B : Nat) (f : Nat → Nat) : World := (((((((w.setCell ⟨B, 0, none⟩ (.int .i64 (f 0))).setCell ⟨B, 1, none⟩ (.int .i64 (f 1))).setCell ⟨B, 2, none⟩ (.int .i64 (f 2))).setCell ⟨B, 3, none⟩ (.int .i64 (f 3))).setCell ⟨B, 4, none⟩ (.int .i64 (f 4))).setCell ⟨B, 5, none⟩ (.int .i64 (f 5))).setCell ⟨B, 6, none⟩ (.int .i64 (f 6))).setCell ⟨B, 7, none⟩ (.int .i64 (f 7))
theorem WBox.set8 {w : World} {B : Nat} {g : Nat → Nat} (h : WBox w B g) (f : Nat → Nat) : WBox (set8 w B f) B f := by
  have h0 := ((((((((h.set 0 (f 0) (by omega)).set 1 (f 1) (by omega)).set 2 (f 2) (by omega)).set 3 (f 3) (by omega)).set 4 (f 4) (by omega)).set 5 (f 5) (by omega)).set 6 (f 6) (by omega)).set 7 (f 7) (by omega))
  unfold WBox at h0 ⊢
  exact h0
theorem below_set8 {w0 w : World} {n B : Nat} (h : Below n w0 w) (hB : n ≤ B) (f : Nat → Nat) : Below n w0 (set8 w B f) :=
  (((((((h.setCell (p := ⟨B, 0, none⟩) hB _).setCell (p := ⟨B, 1, none⟩) hB _).setCell (p := ⟨B, 2, none⟩) hB _).setCell (p := ⟨B, 3, none⟩) hB _).setCell (p := ⟨B, 4, none⟩) hB _).setCell (p := ⟨B, 5, none⟩) hB _).setCell (p := ⟨B, 6, none⟩) hB _).setCell (p := ⟨B, 7, none⟩) hB _

set_option maxRecDepth 100000 in
set_option maxHeartbeats 2000000 in
theorem gAfter_any (f : Nat → Nat) (A : Option Addr) (l : List Bool) (c : Nat) (q : Bool) (w : World) (h : Marks w A l) (hl : l.length ≤ 8) (hf : ∀ i, f i ≤ 16777216) :
  Calls Try.prog 62 #[.agg (wcells f), .agg #[.slice A l.length c, .bool q]] w (fun en w' => Below w.heap.size w w' ∧ en = .returned (.agg (wcells (aftTo (l, q) f l.length)))) := by
  have hB1 := (Below.refl w.heap.size w).alloc (Nat.le_refl _) (.cells (wcells f) 64)
  have hB2 := hB1.alloc (by simp) (.cells #[.slice A l.length c, .bool q] 47)
  have hB3 := hB2.alloc (by simp; omega) (.cells #[.int .i64 0, .int .i64 0, .int .i64 0, .int .i64 0, .int .i64 0, .int .i64 0, .int .i64 0, .int .i64 0] 64)
  have hW1 := WBox.made w f
  have hW2 := hW1.below ((Below.refl _ _).alloc (Nat.le_refl _) (.cells #[.slice A l.length c, .bool q] 47))
  have hW3 := hid (hW2.below ((Below.refl _ _).alloc (Nat.le_refl _) (.cells #[.int .i64 0, .int .i64 0, .int .i64 0, .int .i64 0, .int .i64 0, .int .i64 0, .int .i64 0, .int .i64 0] 64)))
  have hZ : Hid (WBox (((w.alloc (.cells (wcells f) 64)).alloc (.cells #[.slice A l.length c, .bool q] 47)).alloc (.cells #[.int .i64 0, .int .i64 0, .int .i64 0, .int .i64 0, .int .i64 0, .int .i64 0, .int .i64 0, .int .i64 0] 64)) ((w.alloc (.cells (wcells f) 64)).alloc (.cells #[.slice A l.length c, .bool q] 47)).heap.size (fun _ => 0)) := hid (WBox.made ((w.alloc (.cells (wcells f) 64)).alloc (.cells #[.slice A l.length c, .bool q] 47)) (fun _ => 0))
  have c0 : (((w.alloc (.cells (wcells f) 64)).alloc (.cells #[.slice A l.length c, .bool q] 47)).alloc (.cells #[.int .i64 0, .int .i64 0, .int .i64 0, .int .i64 0, .int .i64 0, .int .i64 0, .int .i64 0, .int .i64 0] 64)).cell? ⟨w.heap.size + 1, 0, none⟩ = some (.slice A l.length c) := by go_simp
  have c1 : (((w.alloc (.cells (wcells f) 64)).alloc (.cells #[.slice A l.length c, .bool q] 47)).alloc (.cells #[.int .i64 0, .int .i64 0, .int .i64 0, .int .i64 0, .int .i64 0, .int .i64 0, .int .i64 0, .int .i64 0] 64)).cell? ⟨w.heap.size + 1, 1, none⟩ = some (.bool q) := by go_simp
  have hlen := h.len
  have HH := hid h
  have HF := hid hf
  have HB := hid hB3
  have HBad := hid (fun k (hk : k < l.length) => bad_at (l, q) k hk)
  simp only [World.size_alloc, World.size_alloc] at hZ
  clear hB1 hB2 hB3 hW1 hW2 h hf
  generalize hwr : ((w.alloc (.cells (wcells f) 64)).alloc (.cells #[.slice A l.length c, .bool q] 47)).alloc (.cells #[.int .i64 0, .int .i64 0, .int .i64 0, .int .i64 0, .int .i64 0, .int .i64 0, .int .i64 0, .int .i64 0] 64) = wB at *
  go_enter Try.func62, Try.ntmps62
  go_wp2
  clear hwr
  go_loopw [10] (fun i wr => ∃ (k : Nat), k ≤ l.length ∧ i = .int .i64 k ∧ Hid (WBox wr w.heap.size (aftTo (l, q) f k)) ∧ Hid (WBox wr (w.heap.size + 1 + 1) (fun _ => 0)) ∧ wr.cell? ⟨w.heap.size + 1, 0, none⟩ = some (.slice A l.length c) ∧ wr.cell? ⟨w.heap.size + 1, 1, none⟩ = some (.bool q) ∧ Hid (Below w.heap.size w wr)) (fun i _ => l.length - (intOf i).toNat)
  case atStart => exact ⟨0, Nat.zero_le _, rfl, by rw [aftTo_zero]; exact hW3, hZ, c0, c1, HB⟩
  case round =>
    obtain ⟨k, hk, rfl, HW, HZ, d0, d1, HBl⟩ := hrel
    clear c0 c1 hW3 hZ HB
    by_cases hlt : k < l.length
    · rcases (HH.out.below HBl.out).at_ with e | ⟨b, off, rfl, hc⟩
      · rw [e] at hlt; simp at hlt
      have m0 := hc k hlt
      have w0 := HW.out.cell k (by omega)
      have f0 := HW.out.frozen k
      rw [aftTo_at] at w0
      have hfk := HF.out k
      have hk8 : k < 8 := by omega
      have HBk := hid (HBad.out k hlt)
      clear hc
      generalize hp : bAt l k = p at *
      cases hpq : (p == q) with
      | true =>
        have HN := hid (aftTo_no (l, q) f k (by rw [HBk.out, bne, hpq]; rfl))
        clear hp
        go_wp2
        go_roundw
        case rel => exact ⟨k + 1, by omega, by go_num, by rw [HN.out]; exact HW, HZ, d0, d1, HBl⟩
        case measure => simp [intOf]; omega
      | false =>
        have HN := hid (aftTo_yes (l, q) f k (by rw [HBk.out, bne, hpq]; rfl))
        clear hp
        go_wp2
        go_roundw
        case rel => exact ⟨k + 1, by omega, by go_num, by rw [HN.out]; exact HW.out.set k _ hk8, HZ.out.other _ _ (by simp; omega), by go_simp, by go_simp, HBl.out.setCell (Nat.le_refl _) _⟩
        case measure => simp [intOf]; omega
    · obtain rfl : k = l.length := by omega
      have HG := HW.out
      have HE := hid (show ∃ g, aftTo (l, q) f l.length = g from ⟨_, rfl⟩)
      obtain ⟨g, hg⟩ := HE.out
      rw [hg] at HG
      clear HW HE
      have HE := hid hg
      clear hg
      have g0 := HG.cell 0 (by omega)
      have g1 := HG.cell 1 (by omega)
      have g2 := HG.cell 2 (by omega)
      have g3 := HG.cell 3 (by omega)
      have g4 := HG.cell 4 (by omega)
      have g5 := HG.cell 5 (by omega)
      have g6 := HG.cell 6 (by omega)
      have g7 := HG.cell 7 (by omega)
      have z0 := HZ.out.cell 0 (by omega)
      have z1 := HZ.out.cell 1 (by omega)
      have z2 := HZ.out.cell 2 (by omega)
      have z3 := HZ.out.cell 3 (by omega)
      have z4 := HZ.out.cell 4 (by omega)
      have z5 := HZ.out.cell 5 (by omega)
      have z6 := HZ.out.cell 6 (by omega)
      have z7 := HZ.out.cell 7 (by omega)
      have zf := HZ.out.frozen
      clear HG
      go_wp2
      refine bodyPost_ret (v := .agg (wcells g)) ?_ rfl ⟨?_, by rw [HE.out]⟩
      · have hW := HZ.out.set8 g
        obtain ⟨ws, hws⟩ : ∃ ws, set8 wr (w.heap.size + 1 + 1) g = ws := ⟨_, rfl⟩
        rw [hws] at hW
        unfold set8 at hws
        rw [hws]
        have q0 := hW.cell 0 (by omega)
        have q1 := hW.cell 1 (by omega)
        have q2 := hW.cell 2 (by omega)
        have q3 := hW.cell 3 (by omega)
        have q4 := hW.cell 4 (by omega)
        have q5 := hW.cell 5 (by omega)
        have q6 := hW.cell 6 (by omega)
        have q7 := hW.cell 7 (by omega)
        clear z0 z1 z2 z3 z4 z5 z6 z7 g0 g1 g2 g3 g4 g5 g6 g7 d0 d1 hws
        simp [results, Try.results62, go_sem, q0, q1, q2, q3, q4, q5, q6, q7]
        rfl
      · exact below_set8 HBl.out (by omega) g
end Go.Proofs.Ytfjncmhbpfcdiaa
