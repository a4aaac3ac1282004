/- Equal of the document, of two machines with the same contents: chapter 3. -/
import Derived.Test.YtkboeldafppicaaBase
import Derived.BigQuiet
import Derived.Test.YtkboeldafppicaaMaP
/- Whether two lists are the same: the document's SameInts of chapter 3. -/
set_option linter.unusedVariables false
namespace Go.Proofs.Ytkboeldafppicaa
open Go.RowKit

def vAtM (o : List Int) (k : Nat) : Int := o[k]?.getD 0
theorem vAtM_ext {o p : List Int} (h : o.length = p.length) (hk : ∀ k, k < o.length → vAtM o k = vAtM p k) : o = p := by
  refine List.ext_getElem h fun k h1 h2 => ?_
  have := hk k h1
  simpa [vAtM, h1, h2] using this
theorem Ints.atM {w : World} {A : Option Addr} {xs : List Int} (h : Ints w A xs) (h0 : 0 < xs.length) : ∃ b off, A = some ⟨b, off, none⟩ ∧ ∀ j, j < xs.length → w.cell? ⟨b, off + j, none⟩ = some (.int .i64 (xs[j]?.getD 0)) := by
  rcases h.at_ with e | h
  · rw [e] at h0; simp at h0
  · exact h
set_option maxRecDepth 100000 in
set_option maxHeartbeats 1000000 in
theorem sameIntsM_any (a b : Option Addr) (l m : List Int) (ca cb : Nat) (w : World) (ha : Ints w a l) (hb : Ints w b m) : Calls Try.prog 33 #[.slice a l.length ca, .slice b m.length cb] w (fun en w' => (∃ n, w' = w.drewN n) ∧ en = .returned (.bool (decide (l = m)))) := by
  have hlen := ha.len
  have hlenm := hb.len
  by_cases hl : l.length = m.length
  · have HA := hid ha
    have HB := hid hb
    have HL := hid hl
    rw [← hl]
    clear ha hb hl hlenm
    go_enter Try.func33, Try.ntmps33
    go_wp2
    go_loopw [5] (fun i wr => ∃ (k : Nat), k ≤ l.length ∧ i = .int .i64 k ∧ Hid (∃ n, wr = w.drewN n) ∧ Hid (∀ j, j < k → vAtM l j = vAtM m j)) (fun i _ => l.length - (intOf i).toNat)
    case atStart => exact ⟨0, Nat.zero_le _, rfl, ⟨0, rfl⟩, fun j hj => by omega⟩
    case round =>
      obtain ⟨k, hk, rfl, HW, HE⟩ := hrel
      by_cases hlt : k < l.length
      · obtain ⟨n9, hn9⟩ := HW.out
        obtain ⟨b1, o1, rfl, hc1⟩ := HA.out.atM (by omega)
        obtain ⟨b2, o2, rfl, hc2⟩ := HB.out.atM (by rw [← HL.out]; omega)
        have c1 : wr.cell? ⟨b1, o1 + k, none⟩ = some (.int .i64 (vAtM l k)) := by rw [hn9]; exact hc1 k hlt
        have c2 : wr.cell? ⟨b2, o2 + k, none⟩ = some (.int .i64 (vAtM m k)) := by rw [hn9]; exact hc2 k (by rw [← HL.out]; exact hlt)
        have i0 : (0 : Int) ≤ (k : Int) := by omega
        have i1 : (k : Int) < (l.length : Int) := by omega
        have hd : decide (k < l.length) = true := decide_eq_true hlt
        have HX := hid (fun (e : vAtM l k = vAtM m k) => show ∀ j, j < k + 1 → vAtM l j = vAtM m j from fun j hj => by
          by_cases e2 : j = k
          · rw [e2]; exact e
          · exact HE.out j (by omega))
        have HN := hid (fun (e : vAtM l k ≠ vAtM m k) => show decide (l = m) = false from decide_eq_false (fun h => e (by rw [h])))
        clear hc1 hc2 hn9 n9
        generalize vAtM l k = p at *
        generalize vAtM m k = q at *
        by_cases he : p = q
        · have HX2 := hid (HX.out he)
          clear HX HN
          subst he
          have hne : (p != p) = false := by simp
          as_aux_lemma =>
            go_wp2_with fail
            go_quiet (fail)
            go_wp2
            go_roundw
            case rel => exact ⟨k + 1, by omega, by go_num, by obtain ⟨n, e⟩ := HW.out; exact ⟨_, by rw [e, World.drewN_drewN]⟩, HX2⟩
            case measure => simp [intOf]; omega
        · have HN2 := hid (HN.out he)
          have hne : (p != q) = true := by simp; exact he
          have HWn := hid (fun (k : Nat) => show ∃ n, wr.drewN k = w.drewN n from by obtain ⟨n, e⟩ := HW.out; exact ⟨_, by rw [e, World.drewN_drewN]⟩)
          clear HX HN he
          as_aux_lemma =>
            go_wp2_with fail
            go_quiet (fail)
            go_wp2
            go_ret
            exact ⟨HWn.out _, by rw [HN2.out]; rfl⟩
      · obtain rfl : k = l.length := by omega
        have hd : decide (l.length < l.length) = false := decide_eq_false (Nat.lt_irrefl _)
        have HF := hid (show decide (l = m) = true from decide_eq_true (vAtM_ext HL.out HE.out))
        as_aux_lemma =>
          go_wp2
          go_ret
          exact ⟨HW.out, by rw [HF.out]; rfl⟩
  · have HF := hid (show decide (l = m) = false from decide_eq_false (fun h => hl (by rw [h])))
    have hne : ((l.length : Int) != (m.length : Int)) = true := by simp; omega
    have hne2 : ((l.length : Int) == (m.length : Int)) = false := by simp; omega
    clear ha hb
    generalize l.length = n1 at *
    generalize m.length = n2 at *
    as_aux_lemma =>
      go_enter Try.func33, Try.ntmps33
      go_wp2
      go_ret
      exact ⟨⟨0, rfl⟩, by rw [HF.out]; rfl⟩
end Go.Proofs.Ytkboeldafppicaa
set_option linter.unusedVariables false
set_option linter.unusedSimpArgs false
namespace Go.Proofs.Ytkboeldafppicaa
open Go.RowKit

theorem drewN_below (w : World) (n : Nat) : Below w.heap.size w (w.drewN n) := ⟨(Below.refl w.heap.size w).os, (Below.refl w.heap.size w).tape, (Below.refl w.heap.size w).output, (Below.refl w.heap.size w).size, (Below.refl w.heap.size w).block⟩
theorem sameM_q (a b : Option Addr) (l : List Int) (ca cb : Nat) (w : World) (ha : Ints w a l) (hb : Ints w b l) (n : Nat) : Calls Try.prog 33 #[.slice a l.length ca, .slice b l.length cb] (w.drewN n) fun en w' => en = .returned (.bool true) ∧ ∃ m, w' = w.drewN m := by
  refine (sameIntsM_any a b l l ca cb (w.drewN n) (ha.below (drewN_below w n)) (hb.below (drewN_below w n))).mono ?_
  rintro en w' ⟨⟨m, rfl⟩, rfl⟩
  exact ⟨by simp, n + m, World.drewN_drewN _ _ _⟩
set_option maxRecDepth 100000 in
set_option maxHeartbeats 2000000 in
theorem rEqual_same (L : Int) (nc ac nc' ac' : Nat) (Na Aa Na' Aa' : Option Addr) (rows : List (List Int)) (accs : List Bool) (w : World) (h : MachAt w Na rows Aa accs) (h' : MachAt w Na' rows Aa' accs) :
    Calls Try.prog 28 #[machV L Na rows.length nc Aa accs.length ac, machV L Na' rows.length nc' Aa' accs.length ac'] w fun e w' => Below w.heap.size w w' ∧ e = .returned (.bool true) := by
  have hB1 : Below w.heap.size w ((w.alloc (.cells #[.int .i64 L, .slice Na rows.length nc, .slice Aa accs.length ac] 25)).alloc (.cells #[.int .i64 L, .slice Na' rows.length nc', .slice Aa' accs.length ac'] 25)) := ((Below.refl _ _).alloc (Nat.le_refl _) _).alloc (by simp) _
  have HH := hid (h.below hB1)
  have HH' := hid (h'.below hB1)
  have hn := h.nlen
  have hal := h.alen
  have HB1 := hid hB1
  clear h h' hB1
  unfold machV
  go_enter Try.func28, Try.ntmps28
  have b1 : ((w.alloc (.cells #[.int .i64 L, .slice Na rows.length nc, .slice Aa accs.length ac] 25)).alloc (.cells #[.int .i64 L, .slice Na' rows.length nc', .slice Aa' accs.length ac'] 25)).cell? ⟨w.heap.size, 1, none⟩ = some (.slice Na rows.length nc) := by go_simp
  have b2 : ((w.alloc (.cells #[.int .i64 L, .slice Na rows.length nc, .slice Aa accs.length ac] 25)).alloc (.cells #[.int .i64 L, .slice Na' rows.length nc', .slice Aa' accs.length ac'] 25)).cell? ⟨w.heap.size, 2, none⟩ = some (.slice Aa accs.length ac) := by go_simp
  have d1 : ((w.alloc (.cells #[.int .i64 L, .slice Na rows.length nc, .slice Aa accs.length ac] 25)).alloc (.cells #[.int .i64 L, .slice Na' rows.length nc', .slice Aa' accs.length ac'] 25)).cell? ⟨w.heap.size + 1, 1, none⟩ = some (.slice Na' rows.length nc') := by go_simp
  have d2 : ((w.alloc (.cells #[.int .i64 L, .slice Na rows.length nc, .slice Aa accs.length ac] 25)).alloc (.cells #[.int .i64 L, .slice Na' rows.length nc', .slice Aa' accs.length ac'] 25)).cell? ⟨w.heap.size + 1, 2, none⟩ = some (.slice Aa' accs.length ac') := by go_simp
  have HBx := hid (And.intro b1 (And.intro b2 (And.intro d1 d2)))
  clear b1 b2 d1 d2
  go_wp2
  generalize (w.alloc (.cells #[.int .i64 L, .slice Na rows.length nc, .slice Aa accs.length ac] 25)).alloc (.cells #[.int .i64 L, .slice Na' rows.length nc', .slice Aa' accs.length ac'] 25) = wb at *
  go_loopw [5] (fun i wr => ∃ (k : Nat), k ≤ rows.length ∧ i = .int .i64 (k : Int) ∧ Hid (Below wb.heap.size wb wr)) (fun i _ => rows.length - (intOf i).toNat)
  case atStart => exact ⟨0, Nat.zero_le _, rfl, Below.refl _ _⟩
  case round =>
    obtain ⟨k, hk, rfl, HB⟩ := hrel
    obtain ⟨b1, b2, d1, d2⟩ := HBx.out
    have e1 := (HB.out.cell (cell_lt b1)).trans b1
    have e2 := (HB.out.cell (cell_lt d1)).trans d1
    clear b1 b2 d1 d2
    by_cases hlt : k < rows.length
    · have hk0 : (0 : Int) ≤ (k : Int) := by omega
      have hk1 : (k : Int) < (rows.length : Int) := by omega
      rcases (HH.out.below HB.out).nat_ with e | ⟨b, o, hA, hc⟩
      · rw [e] at hlt; simp at hlt
      rcases (HH'.out.below HB.out).nat_ with e | ⟨b', o', hA', hc'⟩
      · rw [e] at hlt; simp at hlt
      obtain ⟨A, c, g1, g2⟩ := hc k hlt
      obtain ⟨A', c', g1', g2'⟩ := hc' k hlt
      have Q1 := hid (sameM_q A A' _ c c' wr g2 g2')
      subst hA hA'
      clear hc hc' g2 g2'
      generalize rows[k]?.getD [] = r at *
      go_wp2_with fail
      go_quiet ((go_at_call 33; with_reducible exact Q1.out _))
      go_wp2
      go_roundw
      case rel => exact ⟨k + 1, by omega, by go_num, HB.out.trans ((drewN_below _ _).mono HB.out.size)⟩
      case measure => simp [intOf]; omega
    · have hk1 : ¬ (k : Int) < (rows.length : Int) := by omega
      go_wp2
      obtain ⟨wo, hwo⟩ : ∃ x, x = wr := ⟨_, rfl⟩
      subst hwo
      go_loopw [6] (fun i wr => ∃ (k : Nat), k ≤ accs.length ∧ i = .int .i64 (k : Int) ∧ Hid (Below wb.heap.size wb wr)) (fun i _ => accs.length - (intOf i).toNat)
      case atStart => exact ⟨0, Nat.zero_le _, rfl, HB.out⟩
      case round =>
        clear HB e1 e2 hk1 hk hlt
        obtain ⟨k2, hk, rfl, HB⟩ := hrel
        obtain ⟨b1, b2, d1, d2⟩ := HBx.out
        have e1 := (HB.out.cell (cell_lt b2)).trans b2
        have e2 := (HB.out.cell (cell_lt d2)).trans d2
        clear b1 b2 d1 d2
        by_cases hlt : k2 < accs.length
        · have hk0 : (0 : Int) ≤ (k2 : Int) := by omega
          have hk1 : (k2 : Int) < (accs.length : Int) := by omega
          rcases (HH.out.below HB.out).aat with e | ⟨b, o, hA, hc⟩
          · rw [e] at hlt; simp at hlt
          rcases (HH'.out.below HB.out).aat with e | ⟨b', o', hA', hc'⟩
          · rw [e] at hlt; simp at hlt
          have g1 := hc k2 hlt
          have g1' := hc' k2 hlt
          subst hA hA'
          clear hc hc'
          generalize accs[k2]?.getD false = x at *
          have hxx : (x != x) = false := by simp
          go_wp2_with fail
          go_quiet (fail)
          go_wp2
          go_roundw
          case rel => exact ⟨k2 + 1, by omega, by go_num, HB.out.trans ((drewN_below _ _).mono HB.out.size)⟩
          case measure => simp [intOf]; omega
        · have hk1 : ¬ (k2 : Int) < (accs.length : Int) := by omega
          have HBz := hid (HB1.out.trans (HB.out.mono HB1.out.size))
          go_wp2
          go_ret
          exact ⟨HBz.out, rfl⟩
end Go.Proofs.Ytkboeldafppicaa
