/- Equal of the document, of two machines with the same contents: chapter 3. -/
import Derived.Test.YtkboeldafppicaaMSame
import Derived.Test.YtkboeldafppicaaMaP
set_option linter.unusedVariables false
set_option linter.unusedSimpArgs false
namespace Go.Proofs.Ytkboeldafppicaa
open Go.RowKit

theorem drewN_below (w : World) (n : Nat) : Below w.heap.size w (w.drewN n) := ⟨(Below.refl w.heap.size w).os, (Below.refl w.heap.size w).tape, (Below.refl w.heap.size w).output, (Below.refl w.heap.size w).size, (Below.refl w.heap.size w).block⟩
theorem sameM_q (a b : Option Addr) (l : List Int) (ca cb : Nat) (w : World) (ha : Ints w a l) (hb : Ints w b l) (n : Nat) : Calls Try.prog 33 #[.slice a l.length ca, .slice b l.length cb] (w.drewN n) fun en w' => en = .returned (.bool true) ∧ ∃ m, w' = w.drewN m := by
  refine (sameIntsM_any a b l l ca cb (w.drewN n) (ha.below (drewN_below w n)) (hb.below (drewN_below w n))).mono ?_
  rintro en w' ⟨⟨m, rfl⟩, rfl⟩
  exact ⟨by simp, n + m, World.drewN_drewN _ _ _⟩
set_option maxRecDepth 100000 in
set_option maxHeartbeats 2000000 in
theorem rEqual_same (L : Int) (nc ac nc' ac' : Nat) (Na Aa Na' Aa' : Option Addr) (rows : List (List Int)) (accs : List Bool) (w : World) (h : MachAt w Na rows Aa accs) (h' : MachAt w Na' rows Aa' accs) :
    Calls Try.prog 28 #[machV L Na rows.length nc Aa accs.length ac, machV L Na' rows.length nc' Aa' accs.length ac'] w fun e w' => Below w.heap.size w w' ∧ e = .returned (.bool true) := by
  have hB1 : Below w.heap.size w ((w.alloc (.cells #[.int .i64 L, .slice Na rows.length nc, .slice Aa accs.length ac] 25)).alloc (.cells #[.int .i64 L, .slice Na' rows.length nc', .slice Aa' accs.length ac'] 25)) := ((Below.refl _ _).alloc (Nat.le_refl _) _).alloc (by simp) _
  have HH := hid (h.below hB1)
  have HH' := hid (h'.below hB1)
  have hn := h.nlen
  have hal := h.alen
  have HB1 := hid hB1
  clear h h' hB1
  unfold machV
  go_enter Try.func28, Try.ntmps28
  have b1 : ((w.alloc (.cells #[.int .i64 L, .slice Na rows.length nc, .slice Aa accs.length ac] 25)).alloc (.cells #[.int .i64 L, .slice Na' rows.length nc', .slice Aa' accs.length ac'] 25)).cell? ⟨w.heap.size, 1, none⟩ = some (.slice Na rows.length nc) := by go_simp
  have b2 : ((w.alloc (.cells #[.int .i64 L, .slice Na rows.length nc, .slice Aa accs.length ac] 25)).alloc (.cells #[.int .i64 L, .slice Na' rows.length nc', .slice Aa' accs.length ac'] 25)).cell? ⟨w.heap.size, 2, none⟩ = some (.slice Aa accs.length ac) := by go_simp
  have d1 : ((w.alloc (.cells #[.int .i64 L, .slice Na rows.length nc, .slice Aa accs.length ac] 25)).alloc (.cells #[.int .i64 L, .slice Na' rows.length nc', .slice Aa' accs.length ac'] 25)).cell? ⟨w.heap.size + 1, 1, none⟩ = some (.slice Na' rows.length nc') := by go_simp
  have d2 : ((w.alloc (.cells #[.int .i64 L, .slice Na rows.length nc, .slice Aa accs.length ac] 25)).alloc (.cells #[.int .i64 L, .slice Na' rows.length nc', .slice Aa' accs.length ac'] 25)).cell? ⟨w.heap.size + 1, 2, none⟩ = some (.slice Aa' accs.length ac') := by go_simp
  have HBx := hid (And.intro b1 (And.intro b2 (And.intro d1 d2)))
  clear b1 b2 d1 d2
  go_wp2
  generalize (w.alloc (.cells #[.int .i64 L, .slice Na rows.length nc, .slice Aa accs.length ac] 25)).alloc (.cells #[.int .i64 L, .slice Na' rows.length nc', .slice Aa' accs.length ac'] 25) = wb at *
  go_loopw [5] (fun i wr => ∃ (k : Nat), k ≤ rows.length ∧ i = .int .i64 (k : Int) ∧ Hid (Below wb.heap.size wb wr)) (fun i _ => rows.length - (intOf i).toNat)
  case atStart => exact ⟨0, Nat.zero_le _, rfl, Below.refl _ _⟩
  case round =>
    obtain ⟨k, hk, rfl, HB⟩ := hrel
    obtain ⟨b1, b2, d1, d2⟩ := HBx.out
    have e1 := (HB.out.cell (cell_lt b1)).trans b1
    have e2 := (HB.out.cell (cell_lt d1)).trans d1
    clear b1 b2 d1 d2
    by_cases hlt : k < rows.length
    · have hk0 : (0 : Int) ≤ (k : Int) := by omega
      have hk1 : (k : Int) < (rows.length : Int) := by omega
      rcases (HH.out.below HB.out).nat_ with e | ⟨b, o, hA, hc⟩
      · rw [e] at hlt; simp at hlt
      rcases (HH'.out.below HB.out).nat_ with e | ⟨b', o', hA', hc'⟩
      · rw [e] at hlt; simp at hlt
      obtain ⟨A, c, g1, g2⟩ := hc k hlt
      obtain ⟨A', c', g1', g2'⟩ := hc' k hlt
      have Q1 := hid (sameM_q A A' _ c c' wr g2 g2')
      subst hA hA'
      clear hc hc' g2 g2'
      generalize rows[k]?.getD [] = r at *
      go_wp2_with fail
      go_quiet ((go_at_call 33; with_reducible exact Q1.out _))
      go_wp2
      go_roundw
      case rel => exact ⟨k + 1, by omega, by go_num, HB.out.trans ((drewN_below _ _).mono HB.out.size)⟩
      case measure => simp [intOf]; omega
    · have hk1 : ¬ (k : Int) < (rows.length : Int) := by omega
      go_wp2
      obtain ⟨wo, hwo⟩ : ∃ x, x = wr := ⟨_, rfl⟩
      subst hwo
      go_loopw [6] (fun i wr => ∃ (k : Nat), k ≤ accs.length ∧ i = .int .i64 (k : Int) ∧ Hid (Below wb.heap.size wb wr)) (fun i _ => accs.length - (intOf i).toNat)
      case atStart => exact ⟨0, Nat.zero_le _, rfl, HB.out⟩
      case round =>
        clear HB e1 e2 hk1 hk hlt
        obtain ⟨k2, hk, rfl, HB⟩ := hrel
        obtain ⟨b1, b2, d1, d2⟩ := HBx.out
        have e1 := (HB.out.cell (cell_lt b2)).trans b2
        have e2 := (HB.out.cell (cell_lt d2)).trans d2
        clear b1 b2 d1 d2
        by_cases hlt : k2 < accs.length
        · have hk0 : (0 : Int) ≤ (k2 : Int) := by omega
          have hk1 : (k2 : Int) < (accs.length : Int) := by omega
          rcases (HH.out.below HB.out).aat with e | ⟨b, o, hA, hc⟩
          · rw [e] at hlt; simp at hlt
          rcases (HH'.out.below HB.out).aat with e | ⟨b', o', hA', hc'⟩
          · rw [e] at hlt; simp at hlt
          have g1 := hc k2 hlt
          have g1' := hc' k2 hlt
          subst hA hA'
          clear hc hc'
          generalize accs[k2]?.getD false = x at *
          have hxx : (x != x) = false := by simp
          go_wp2_with fail
          go_quiet (fail)
          go_wp2
          go_roundw
          case rel => exact ⟨k2 + 1, by omega, by go_num, HB.out.trans ((drewN_below _ _).mono HB.out.size)⟩
          case measure => simp [intOf]; omega
        · have hk1 : ¬ (k2 : Int) < (accs.length : Int) := by omega
          have HBz := hid (HB1.out.trans (HB.out.mono HB1.out.size))
          go_wp2
          go_ret
          exact ⟨HBz.out, rfl⟩
end Go.Proofs.Ytkboeldafppicaa
