/- Going through a game: play of package guess. -/
import Derived.Test.YtfjncmhbpfcdiaaGuAft
import Derived.Test.YtfjncmhbpfcdiaaRowsI
import Derived.Test.YtfjncmhbpfcdiaaStepApp
import Derived.OneCell
set_option linter.unusedVariables false
namespace Go.Proofs.Ytfjncmhbpfcdiaa
open Go.RowKit

theorem gbool_info : (Try.prog.info? 4).map (fun i => (i.zero, i.size, i.bytes)) = some (some (.bool false), 1, 1) := by kernel_rfl
def iniTo (f k : Nat) : Nat → Nat := fun i => if i < k then f else 0
theorem iniTo_succ (f k : Nat) : iniTo f (k + 1) = upd (iniTo f k) k f := by
  funext i
  unfold iniTo upd
  by_cases h1 : i = k
  · subst h1; simp
  · by_cases h2 : i < k
    · simp [h1, h2, show i < k + 1 by omega]
    · simp [h1, h2, show ¬ i < k + 1 by omega]
theorem wcells_ini (f : Nat) (g : List Rnd) : wcells (iniTo f 8) = wcells (fun a => wtN f g a 0) := by
  simp [wcells, iniTo, wtN_zero]
theorem aft_wt (f : Nat) (g : List Rnd) (k : Nat) : aftTo (rAt g k) (fun a => wtN f g a k) (rAt g k).1.length = fun a => wtN f g a (k + 1) := by
  funext i
  unfold aftTo
  rw [wtN_succ]
  by_cases h : bad (rAt g k) i = true
  · have : i < (rAt g k).1.length := Nat.lt_of_not_le fun hh => by rw [bad_out _ _ hh] at h; cases h
    simp [h, this]
  · simp [h]
def mcells (l : List Bool) : List Value := l.map Value.bool
theorem mcells_len (l : List Bool) : (mcells l).length = l.length := by simp [mcells]
theorem mcells_snoc (l : List Bool) (b : Bool) : mcells (l ++ [b]) = mcells l ++ [.bool b] := by simp [mcells]
/-- A list of marks of the call's own. -/
def OwnM (w : World) (base : Nat) (v : Value) (l : List Bool) : Prop := w.ownsRow base 4 1 v l.length (mcells l)
theorem OwnM.below {w w' : World} {base : Nat} {v : Value} {l : List Bool} (h : OwnM w base v l) (hb : Below w.heap.size w w') : OwnM w' base v l := own_below h hb
theorem OwnM.marks {w : World} {base : Nat} {v : Value} {l : List Bool} (h : OwnM w base v l) (hl : l.length ≤ 140737488355328) : ∃ A c, v = .slice A l.length c ∧ Marks w A l := by
  unfold OwnM at h
  rcases h.2 with ⟨rfl, h0⟩ | ⟨g, cap, cur, rfl, hg, hh, hc, hm, hs, ht⟩
  · exact ⟨none, 0, by rw [h0], hl, .inl (List.eq_nil_of_length_eq_zero h0)⟩
  · refine ⟨_, _, rfl, hl, .inr ⟨g, 0, rfl, fun i hi => ?_⟩⟩
    have := h.cellAt i (by omega)
    rw [Nat.zero_add, this]
    simp [mcells, bAt, hi]
theorem own_set8 {w : World} {B : Nat} {v : Value} {l : List Bool} (h : OwnM w (B + 1) v l) (f : Nat → Nat) : OwnM (set8 w B f) (B + 1) v l := by
  unfold OwnM at h ⊢
  have hne : v.ownBlock ≠ some B := fun e => by have := (h.lt B e).1; omega
  exact ownsRow_setCell_other (a := ⟨B, 7, none⟩) (ownsRow_setCell_other (a := ⟨B, 6, none⟩) (ownsRow_setCell_other (a := ⟨B, 5, none⟩) (ownsRow_setCell_other (a := ⟨B, 4, none⟩) (ownsRow_setCell_other (a := ⟨B, 3, none⟩) (ownsRow_setCell_other (a := ⟨B, 2, none⟩) (ownsRow_setCell_other (a := ⟨B, 1, none⟩) (ownsRow_setCell_other (a := ⟨B, 0, none⟩) h hne _) hne _) hne _) hne _) hne _) hne _) hne _) hne _
def PlayR (f : Nat) (g : List Rnd) (w : World) (en : Ending) (w' : World) : Prop := Below w.heap.size w w' ∧ ∃ A c, en = .returned (.tuple #[.slice A g.length c, .agg (wcells (fun a => wtN f g a g.length))]) ∧ Marks w' A (saidL f g g.length)

set_option maxRecDepth 100000 in
set_option maxHeartbeats 4000000 in
theorem gPlay_any (f : Nat) (a : Option Addr) (g : List Rnd) (cap : Nat) (w : World) (h : GameAt w a g) (hg : GameOk g) (hf : f ≤ 16777216) :
  Calls Try.prog 48 #[.slice a g.length cap, .int .i64 (f : Int)] w (PlayR f g w) := by
  obtain ⟨i0, hinf, hz0, hz1, hz2⟩ := info_parts gbool_info
  have hlen := hg.len
  have HH := hid h
  have HG := hid hg
  have HB0 := hid ((Below.refl w.heap.size w).alloc (Nat.le_refl _) (.cells #[.int .i64 0, .int .i64 0, .int .i64 0, .int .i64 0, .int .i64 0, .int .i64 0, .int .i64 0, .int .i64 0] 64))
  have HZ : Hid (WBox (w.alloc (.cells #[.int .i64 0, .int .i64 0, .int .i64 0, .int .i64 0, .int .i64 0, .int .i64 0, .int .i64 0, .int .i64 0] 64)) w.heap.size (iniTo f 0)) := hid (WBox.made w (fun _ => 0))
  have hsz : w.heap.size < (w.alloc (.cells #[.int .i64 0, .int .i64 0, .int .i64 0, .int .i64 0, .int .i64 0, .int .i64 0, .int .i64 0, .int .i64 0] 64)).heap.size := by simp
  generalize hwB : w.alloc (.cells #[.int .i64 0, .int .i64 0, .int .i64 0, .int .i64 0, .int .i64 0, .int .i64 0, .int .i64 0, .int .i64 0] 64) = wB at *
  clear h hg
  go_enter Try.func48, Try.ntmps48
  go_wp2
  clear hwB
  go_loopw [8] (fun i wr => ∃ (k : Nat), k ≤ 8 ∧ i = .int .i64 k ∧ Hid (WBox wr w.heap.size (iniTo f k)) ∧ Hid (Below w.heap.size w wr) ∧ Hid (w.heap.size < wr.heap.size)) (fun i _ => 8 - (intOf i).toNat)
  case atStart => exact ⟨0, Nat.zero_le _, rfl, HZ, HB0, hsz⟩
  case round =>
    obtain ⟨k, hk, rfl, HW, HB, HS⟩ := hrel
    clear HZ HB0 hsz
    by_cases hlt : k < 8
    · have c0 := HW.out.cell k hlt
      have f0 := HW.out.frozen k
      have HN := hid (iniTo_succ f k)
      generalize hv : iniTo f k k = v at c0
      clear hv
      go_wp2
      go_roundw
      case rel => exact ⟨k + 1, by omega, by go_num, by rw [HN.out]; exact HW.out.set k _ hlt, HB.out.setCell (Nat.le_refl _) _, by unfold Hid; rw [World.size_setCell]; exact HS.out⟩
      case measure => simp [intOf]; omega
    · obtain rfl : k = 8 := by omega
      have HW2 : Hid (WBox wr w.heap.size (fun a => wtN f g a 0)) := by unfold Hid; have := HW.out; unfold WBox at this ⊢; rw [← wcells_ini]; exact this
      clear HW
      go_wp2
      go_loopw [4, 17] (fun o i wr => ∃ (k : Nat), k ≤ g.length ∧ i = .int .i64 k ∧ Hid (WBox wr w.heap.size (fun a => wtN f g a k)) ∧ Hid (OwnM wr (w.heap.size + 1) o (saidL f g k)) ∧ Hid (Below w.heap.size w wr) ∧ Hid (w.heap.size < wr.heap.size)) (fun _ i _ => g.length - (intOf i).toNat)
      case atStart => exact ⟨0, Nat.zero_le _, rfl, HW2, ⟨rfl, .inl ⟨rfl, rfl⟩⟩, HB, HS⟩
      case round =>
        obtain ⟨k, hk, rfl, HW1, HO, HB1, HS1⟩ := hrel
        clear HB HS HW2
        by_cases hlt : k < g.length
        · rcases HH.out.at_ with e | ⟨b, off, rfl, hc⟩
          · rw [e] at hlt; simp at hlt
          obtain ⟨A, c, c0, c1, s0⟩ := hc k hlt
          have hbl := cell_lt c0
          dsimp only at hbl
          have c0 : wr.cell? ⟨b, off + k * 2, none⟩ = some (.slice A (rAt g k).1.length c) := by rw [HB1.out.cell (p := ⟨b, off + k * 2, none⟩) hbl]; exact c0
          have c1 : wr.cell? ⟨b, off + k * 2 + 1, none⟩ = some (.bool (rAt g k).2) := by rw [HB1.out.cell (p := ⟨b, off + k * 2 + 1, none⟩) hbl]; exact c1
          have hr8 : (rAt g k).1.length ≤ 8 := by have := HG.out.adv k hlt; omega
          have HSay := hid (fun W (hb : Below (w.heap.size + 1) wr W) => gSay_any (fun a => wtN f g a k) A (rAt g k).1 c W (s0.below (HB1.out.trans (hb.mono (by omega)))) hr8 (fun i => Nat.le_trans (wtN_le f g i k) hf))
          have HAft := hid (fun W (hb : Below (w.heap.size + 1) wr W) => gAfter_any (fun a => wtN f g a k) A (rAt g k).1 c (rAt g k).2 W (s0.below (HB1.out.trans (hb.mono (by omega)))) hr8 (fun i => Nat.le_trans (wtN_le f g i k) hf))
          have HNext := hid (show aftTo ((rAt g k).1, (rAt g k).2) (fun a => wtN f g a k) (rAt g k).1.length = fun a => wtN f g a (k + 1) from aft_wt f g k)
          have HSd := hid (show saidL f g (k + 1) = saidL f g k ++ [decide (0 < surp (fun a => wtN f g a k) (rAt g k).1 (rAt g k).1.length)] from rfl)
          have HL := hid (saidL_len f g k)
          have i0' : (0 : Int) ≤ (k : Int) := by omega
          have i1 : (k : Int) < (g.length : Int) := by omega
          have hB2 := HS1.out
          have g0 := HW1.out.cell 0 (by omega)
          have g1 := HW1.out.cell 1 (by omega)
          have g2 := HW1.out.cell 2 (by omega)
          have g3 := HW1.out.cell 3 (by omega)
          have g4 := HW1.out.cell 4 (by omega)
          have g5 := HW1.out.cell 5 (by omega)
          have g6 := HW1.out.cell 6 (by omega)
          have g7 := HW1.out.cell 7 (by omega)
          clear hc s0
          generalize (rAt g k).1 = r at *
          generalize (rAt g k).2 = q at *
          generalize decide (0 < surp (fun a => wtN f g a k) r r.length) = sd at *
          generalize saidL f g k = ls at *
          have HKp := hid (fun (w' : World) (hb : Below (w.heap.size + 1) wr w') => (show w'.cell? ⟨w.heap.size, 0, none⟩ = some (.int .i64 (wtN f g 0 k)) ∧ w'.cell? ⟨w.heap.size, 1, none⟩ = some (.int .i64 (wtN f g 1 k)) ∧ w'.cell? ⟨w.heap.size, 2, none⟩ = some (.int .i64 (wtN f g 2 k)) ∧ w'.cell? ⟨w.heap.size, 3, none⟩ = some (.int .i64 (wtN f g 3 k)) ∧ w'.cell? ⟨w.heap.size, 4, none⟩ = some (.int .i64 (wtN f g 4 k)) ∧ w'.cell? ⟨w.heap.size, 5, none⟩ = some (.int .i64 (wtN f g 5 k)) ∧ w'.cell? ⟨w.heap.size, 6, none⟩ = some (.int .i64 (wtN f g 6 k)) ∧ w'.cell? ⟨w.heap.size, 7, none⟩ = some (.int .i64 (wtN f g 7 k)) ∧ w'.cell? ⟨b, off + k * 2, none⟩ = some (.slice A r.length c) ∧ Below (w.heap.size + 1) wr w' from
            ⟨by rw [hb.cell (p := ⟨w.heap.size, 0, none⟩) (Nat.lt_succ_self _)]; exact g0, by rw [hb.cell (p := ⟨w.heap.size, 1, none⟩) (Nat.lt_succ_self _)]; exact g1, by rw [hb.cell (p := ⟨w.heap.size, 2, none⟩) (Nat.lt_succ_self _)]; exact g2, by rw [hb.cell (p := ⟨w.heap.size, 3, none⟩) (Nat.lt_succ_self _)]; exact g3, by rw [hb.cell (p := ⟨w.heap.size, 4, none⟩) (Nat.lt_succ_self _)]; exact g4, by rw [hb.cell (p := ⟨w.heap.size, 5, none⟩) (Nat.lt_succ_self _)]; exact g5, by rw [hb.cell (p := ⟨w.heap.size, 6, none⟩) (Nat.lt_succ_self _)]; exact g6, by rw [hb.cell (p := ⟨w.heap.size, 7, none⟩) (Nat.lt_succ_self _)]; exact g7, by rw [hb.cell (p := ⟨b, off + k * 2, none⟩) (Nat.lt_succ_of_lt hbl)]; exact c0, hb⟩))
          have hr : Below wr.heap.size wr wr := Below.refl _ _
          have hr1 : Below (w.heap.size + 1) wr wr := Below.refl _ _
          have hO := HO.out
          unfold OwnM at hO
          rw [HL.out] at hO
          have HOk := hid (fun W (hb : Below wr.heap.size wr W) => own_below hO hb)
          have HRow := hid (fun q hq => (hO.lt q hq).1)
          clear g0 g1 g2 g3 g4 g5 g6 g7 hO
          go_wp2_with fail
          go_region_held3 (fun w' => w'.cell? ⟨w.heap.size, 0, none⟩ = some (.int .i64 (wtN f g 0 k)) ∧ w'.cell? ⟨w.heap.size, 1, none⟩ = some (.int .i64 (wtN f g 1 k)) ∧ w'.cell? ⟨w.heap.size, 2, none⟩ = some (.int .i64 (wtN f g 2 k)) ∧ w'.cell? ⟨w.heap.size, 3, none⟩ = some (.int .i64 (wtN f g 3 k)) ∧ w'.cell? ⟨w.heap.size, 4, none⟩ = some (.int .i64 (wtN f g 4 k)) ∧ w'.cell? ⟨w.heap.size, 5, none⟩ = some (.int .i64 (wtN f g 5 k)) ∧ w'.cell? ⟨w.heap.size, 6, none⟩ = some (.int .i64 (wtN f g 6 k)) ∧ w'.cell? ⟨w.heap.size, 7, none⟩ = some (.int .i64 (wtN f g 7 k)) ∧ w'.cell? ⟨b, off + k * 2, none⟩ = some (.slice A r.length c) ∧ Below (w.heap.size + 1) wr w')
            ((refine HKp.out _ ?_; repeat (first | exact hr1 | assumption | apply Below.drew | (refine Below.alloc ?_ (by first | omega | (simp; done) | (simp; omega)) _))))
            (first
              | (go_at_call 52; refine (HSay.out _ (by first | exact hr1.drew | exact hr1 | assumption)).mono ?_; rintro en w4 ⟨rfl, rfl⟩)
              | (refine step_append_own (by rfl) _ _ 36 (by rfl) (w.heap.size + 1) 4 i0 (.bool false) 1 1 Try.underlying36 hinf hz0 hz1 hz2 rfl (by decide) _ k (mcells ls) (by rfl) (HOk.out _ (by repeat (first | exact hr | assumption | apply Below.drew | (refine Below.alloc ?_ (by first | omega | (simp; done) | (simp; omega)) _)))) ⟨wr.heap.size + 1, 0, none⟩ 1 1 [.bool sd] (by rfl) (by rfl) (by intro j u hu; cases j with | zero => (simp at hu; subst hu; go_simp) | succ j => simp at hu) (by simp [Value.oneCell']) (by unfold maxLen; omega) (by omega) (by first | omega | (simp; omega) | (simp <;> omega)) ?_; intro v6 w6 hown6 hgrow6; have p6 : Below (w.heap.size + 1) wr w6 := Below.grown (by repeat (first | exact hr1 | assumption | apply Below.drew | (refine Below.alloc ?_ (by first | omega | (simp; done) | (simp; omega)) _))) hgrow6 (by first | omega | (simp; omega) | (simp <;> omega)) HRow.out))
          clear HKp HOk HRow HSay HO
          have HW6 := hid (show WBox w6 w.heap.size (fun a => wtN f g a k) by have := HW1.out; unfold WBox at this ⊢; rw [p6.block _ (Nat.lt_succ_self _)]; exact this)
          have HO6 : Hid (OwnM w6 (w.heap.size + 1) v6 (saidL f g (k + 1))) := by
            unfold Hid OwnM
            rw [HSd.out, mcells_snoc, List.length_append, HL.out]
            exact hown6
          have HB6 := hid (HB1.out.trans (p6.mono (by omega)))
          have hz6 : wr.heap.size ≤ w6.heap.size := p6.size
          have c0 : w6.cell? ⟨b, off + k * 2, none⟩ = some (.slice A r.length c) := by rw [p6.cell (p := ⟨b, off + k * 2, none⟩) (Nat.lt_succ_of_lt hbl)]; exact c0
          have c1 : w6.cell? ⟨b, off + k * 2 + 1, none⟩ = some (.bool q) := by rw [p6.cell (p := ⟨b, off + k * 2 + 1, none⟩) (Nat.lt_succ_of_lt hbl)]; exact c1
          have HAf6 := hid (fun W (hb : Below w6.heap.size w6 W) => HAft.out W (p6.trans (hb.mono (by omega))))
          have hr6 : Below w6.heap.size w6 w6 := Below.refl _ _
          have hsz6 : w.heap.size < w6.heap.size := by omega
          have g0 := HW6.out.cell 0 (by omega)
          have g1 := HW6.out.cell 1 (by omega)
          have g2 := HW6.out.cell 2 (by omega)
          have g3 := HW6.out.cell 3 (by omega)
          have g4 := HW6.out.cell 4 (by omega)
          have g5 := HW6.out.cell 5 (by omega)
          have g6 := HW6.out.cell 6 (by omega)
          have g7 := HW6.out.cell 7 (by omega)
          have gf := HW6.out.frozen
          clear hown6 hgrow6 p6 HAft HSd hr hr1 HW1 HB1 HS1
          go_wp2
          go_region_with (go_at_call 62; refine (HAf6.out _ (by first | exact hr6 | exact hr6.drew | exact hr6.drew.drew | exact Below.drew (by assumption))).mono ?_; rintro en w7 ⟨hb7, rfl⟩; have z0 := (hb7.cell (p := ⟨w.heap.size, 0, none⟩) hsz6).trans g0; have y0 := (hb7.frozen (p := ⟨w.heap.size, 0, none⟩) hsz6).trans (gf 0); have z1 := (hb7.cell (p := ⟨w.heap.size, 1, none⟩) hsz6).trans g1; have y1 := (hb7.frozen (p := ⟨w.heap.size, 1, none⟩) hsz6).trans (gf 1); have z2 := (hb7.cell (p := ⟨w.heap.size, 2, none⟩) hsz6).trans g2; have y2 := (hb7.frozen (p := ⟨w.heap.size, 2, none⟩) hsz6).trans (gf 2); have z3 := (hb7.cell (p := ⟨w.heap.size, 3, none⟩) hsz6).trans g3; have y3 := (hb7.frozen (p := ⟨w.heap.size, 3, none⟩) hsz6).trans (gf 3); have z4 := (hb7.cell (p := ⟨w.heap.size, 4, none⟩) hsz6).trans g4; have y4 := (hb7.frozen (p := ⟨w.heap.size, 4, none⟩) hsz6).trans (gf 4); have z5 := (hb7.cell (p := ⟨w.heap.size, 5, none⟩) hsz6).trans g5; have y5 := (hb7.frozen (p := ⟨w.heap.size, 5, none⟩) hsz6).trans (gf 5); have z6 := (hb7.cell (p := ⟨w.heap.size, 6, none⟩) hsz6).trans g6; have y6 := (hb7.frozen (p := ⟨w.heap.size, 6, none⟩) hsz6).trans (gf 6); have z7 := (hb7.cell (p := ⟨w.heap.size, 7, none⟩) hsz6).trans g7; have y7 := (hb7.frozen (p := ⟨w.heap.size, 7, none⟩) hsz6).trans (gf 7); rw [HNext.out]; unfold wcells)
          all_goals
            have p7 := (Below.refl w6.heap.size w6).drew.trans hb7
            have HW7 := hid (show WBox w7 w.heap.size (fun a => wtN f g a k) from HW6.out.below p7)
            have HO7 := hid (HO6.out.below p7)
            have HB7 := hid (HB6.out.trans (p7.mono (by omega)))
            have hz7 : w6.heap.size ≤ w7.heap.size := p7.size
            clear z0 z1 z2 z3 z4 z5 z6 z7 y0 y1 y2 y3 y4 y5 y6 y7 g0 g1 g2 g3 g4 g5 g6 g7 gf HAf6 hb7 HNext hr6 c0 c1
            go_wp2
            go_roundw
            case rel =>
              repeat apply Exists.intro
              refine ⟨?_, rfl⟩
              exact ⟨k + 1, by omega, by go_num, HW7.out.set8 (fun a => wtN f g a (k + 1)), own_set8 HO7.out (fun a => wtN f g a (k + 1)), below_set8 HB7.out (Nat.le_refl _) (fun a => wtN f g a (k + 1)), by unfold Hid; simp only [World.size_setCell]; omega⟩
            case measure => simp [intOf]; omega
        · obtain rfl : k = g.length := by omega
          have hl := saidL_len f g g.length
          obtain ⟨A2, c2, rfl, hm2⟩ := HO.out.marks (by omega)
          rw [hl]
          have g0 := HW1.out.cell 0 (by omega)
          have g1 := HW1.out.cell 1 (by omega)
          have g2 := HW1.out.cell 2 (by omega)
          have g3 := HW1.out.cell 3 (by omega)
          have g4 := HW1.out.cell 4 (by omega)
          have g5 := HW1.out.cell 5 (by omega)
          have g6 := HW1.out.cell 6 (by omega)
          have g7 := HW1.out.cell 7 (by omega)
          have gf := HW1.out.frozen
          have HMe : Hid (Marks (set8 wr w.heap.size (fun a => wtN f g a g.length)) A2 (saidL f g g.length)) := by
            obtain ⟨A3, c3, e3, hm3⟩ := (own_set8 HO.out (fun a => wtN f g a g.length)).marks (by omega)
            simp only [Value.slice.injEq] at e3
            rw [e3.1]
            exact hm3
          have HBe := hid (below_set8 HB1.out (Nat.le_refl _) (fun a => wtN f g a g.length))
          unfold set8 at HMe HBe
          clear hl hm2
          go_wp2_with fail
          go_region
          all_goals
            go_wp2
            refine bodyPost_ret (v := .tuple #[.slice A2 g.length c2, .agg (wcells (fun a => wtN f g a g.length))]) ?_ rfl ⟨?_, _, _, rfl, ?_⟩
            · have hW := HW1.out.set8 (fun a => wtN f g a g.length)
              obtain ⟨ws, hws⟩ : ∃ ws, set8 wr w.heap.size (fun a => wtN f g a g.length) = ws := ⟨_, rfl⟩
              rw [hws] at hW
              unfold set8 at hws
              rw [hws]
              have q0 := hW.cell 0 (by omega)
              have q1 := hW.cell 1 (by omega)
              have q2 := hW.cell 2 (by omega)
              have q3 := hW.cell 3 (by omega)
              have q4 := hW.cell 4 (by omega)
              have q5 := hW.cell 5 (by omega)
              have q6 := hW.cell 6 (by omega)
              have q7 := hW.cell 7 (by omega)
              clear g0 g1 g2 g3 g4 g5 g6 g7 gf hws
              simp [results, Try.results48, go_sem, q0, q1, q2, q3, q4, q5, q6, q7]
              rfl
            · exact Below.drew HBe.out
            · exact Marks.below HMe.out (Below.drew (Below.refl _ _))
end Go.Proofs.Ytfjncmhbpfcdiaa
