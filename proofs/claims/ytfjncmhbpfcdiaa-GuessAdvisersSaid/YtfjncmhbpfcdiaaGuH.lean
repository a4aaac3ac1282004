/- Halving of package guess. -/
import Derived.Test.YtfjncmhbpfcdiaaGuE
import Derived.Test.YtfjncmhbpfcdiaaGuF
set_option linter.unusedVariables false
namespace Go.Proofs.Ytfjncmhbpfcdiaa
open Go.RowKit

/-- Those who were never wrong. -/
def rightTo (g : List Rnd) : Nat → List Int
  | 0 => []
  | k + 1 => rightTo g k ++ if wrongN g k g.length = 0 then [(k : Int)] else []
theorem rightTo_len (g : List Rnd) (k : Nat) : (rightTo g k).length ≤ k := by
  induction k with
  | zero => exact Nat.le_refl _
  | succ k ih => rw [rightTo, List.length_append]; split <;> simp <;> omega
theorem rightTo_mem (g : List Rnd) (k : Nat) : ∀ x ∈ rightTo g k, ∃ n : Nat, x = n ∧ n < k ∧ wrongN g n g.length = 0 := by
  induction k with
  | zero => intro x hx; cases hx
  | succ k ih =>
    intro x hx
    rw [rightTo, List.mem_append] at hx
    rcases hx with hx | hx
    · obtain ⟨n, h1, h2, h3⟩ := ih x hx; exact ⟨n, h1, by omega, h3⟩
    · split at hx
      · rename_i h; simp at hx; exact ⟨k, hx, by omega, h⟩
      · cases hx
/-- What Halving answers. -/
def halfV (g : List Rnd) : List Int × Int × Bool × Int := if gameN g = 0 then (if (rightTo g (advs g)).length = 0 then ([], 0, false, 0) else (rightTo g (advs g), (errN 1 g g.length : Nat), true, 0)) else ([], 0, false, gameN g)
def HalfR (w : World) (p : List Int × Int × Bool × Int) (en : Ending) (w' : World) : Prop := Below w.heap.size w w' ∧ ∃ A c, en = .returned (.tuple #[.slice A p.1.length c, .int .i64 p.2.1, .bool p.2.2.1, .int .i64 p.2.2.2]) ∧ Ints w' A p.1
theorem Own.ints' {w : World} {base : Nat} {v : Value} {xs : List Int} (h : Own w base v xs) (hl : xs.length ≤ 140737488355328) (hb : ∀ x ∈ xs, -9223372036854775808 ≤ x ∧ x ≤ 9223372036854775807) : ∃ A c, v = .slice A xs.length c ∧ Ints w A xs := by
  unfold Own at h
  rcases h.2 with ⟨rfl, h0⟩ | ⟨g, cap, cur, rfl, hg, hh, hc, hm, hs, ht⟩
  · exact ⟨none, 0, by rw [h0], hl, .inl (List.eq_nil_of_length_eq_zero h0), hb⟩
  · refine ⟨_, _, rfl, hl, .inr ⟨g, 0, rfl, fun i hi => ?_⟩, hb⟩
    have := h.cellAt i (by omega)
    rw [Nat.zero_add, this]
    simp [hi]
theorem rightTo_bd (g : List Rnd) (k : Nat) (hk : k ≤ 8) : ∀ x ∈ rightTo g k, -9223372036854775808 ≤ x ∧ x ≤ 9223372036854775807 := fun x hx => by
  obtain ⟨n, h1, h2, _⟩ := rightTo_mem g k x hx; omega

set_option maxRecDepth 100000 in
set_option maxHeartbeats 4000000 in
theorem gHalving_any (a : Option Addr) (g : List Rnd) (cap : Nat) (w : World) (h : GameAt w a g) : Calls Try.prog 34 #[.slice a g.length cap] w (HalfR w (halfV g)) := by
  obtain ⟨i0, hinf, hz0, hz1, hz2⟩ := info_parts int_info
  have hlen := h.len
  have HC := hid (gCheck_any a g cap 0 w h)
  rw [chkG_zero] at HC
  have HE := hid (show halfV g = if gameN g = 0 then (if (rightTo g (advs g)).length = 0 then ([], 0, false, 0) else (rightTo g (advs g), (errN 1 g g.length : Int), true, 0)) else ([], 0, false, gameN g) from rfl)
  by_cases h0 : gameN g = 0
  · have HE2 := hid ((HE.out).trans (if_pos h0))
    clear HE
    obtain ⟨hg0, hpos⟩ := gameN_ok h0
    have hg := gameE_ok hg0
    have had := hg.adv 0 hpos
    rw [h0] at HC
    have HP := hid (fun m => gPlay_any 1 a g cap (w.drewN m) (h.drew m) hg (by omega))
    have HA := hid (fun W (hb : Below w.heap.size w W) => advisers_any a g cap W (h.below hb))
    have HH := hid h
    have hl24 := hg.len
    have a1 : (1 : Int) ≤ (advs g : Int) := by have := had.2.1; omega
    have a8 : advs g ≤ 8 := had.2.2
    have HWt := hid (fun k => wt1_iff g k g.length)
    have HRs := hid (show ∀ k, rightTo g (k + 1) = rightTo g k ++ if wrongN g k g.length = 0 then [(k : Int)] else [] from fun k => rfl)
    have HRl := hid (rightTo_len g)
    have HRb := hid (rightTo_bd g (advs g) a8)
    have hel := errN_le 1 g g.length
    generalize advs g = d at *
    clear h h0 hg hg0 had
    go_enter Try.func34, Try.ntmps34
    go_wp2_with fail
    refine HC.out.mono ?_
    rintro e w1 ⟨m, rfl, rfl⟩
    have hm0 := hid (below_drewN (Below.refl w.heap.size w) m)
    go_wp2_with fail
    refine (HP.out m).mono ?_
    rintro e w2 ⟨hb2, A, c, rfl, hM⟩
    have HB2 := hid (hm0.out.trans hb2)
    have hzw : w.heap.size ≤ w2.heap.size := HB2.out.size
    have HB3 := hid (HB2.out.alloc HB2.out.size (.cells (wcells (fun a => wtN 1 g a g.length)) 64))
    have HW3 := hid (WBox.made w2 (fun a => wtN 1 g a g.length))
    have HM3 := hid (hM.below ((Below.refl _ _).alloc (Nat.le_refl _) (.cells (wcells (fun a => wtN 1 g a g.length)) 64)))
    have hsz : w2.heap.size < (w2.alloc (.cells (wcells (fun a => wtN 1 g a g.length)) 64)).heap.size := by simp
    have hszb : (w2.alloc (.cells (wcells (fun a => wtN 1 g a g.length)) 64)).heap.size ≤ w2.heap.size + 1 := by simp
    clear hb2 hM
    unfold wcells
    go_wp2_with fail
    refine (HA.out _ HB3.out).mono ?_
    rintro e w3 ⟨rfl, rfl⟩
    generalize hw3 : w2.alloc (.cells (wcells (fun a => wtN 1 g a g.length)) 64) = w3 at HB3 HW3 HM3 hsz hszb
    unfold wcells at hw3
    go_wp2
    clear hw3
    go_loopw [9, 23] (fun o i wr => ∃ (k : Nat), k ≤ d ∧ i = .int .i64 k ∧ Hid (WBox wr w2.heap.size (fun a => wtN 1 g a g.length)) ∧ wr.ownsRow (w2.heap.size + 1) 3 1 o (rightTo g k).length ((rightTo g k).map (Value.int .i64)) ∧ Below (w2.heap.size + 1) w3 wr) (fun _ i _ => d - (intOf i).toNat)
    case atStart => exact ⟨0, Nat.zero_le _, rfl, HW3, ⟨rfl, .inl ⟨rfl, rfl⟩⟩, Below.refl _ _⟩
    case round =>
      obtain ⟨k, hk, rfl, HW, hown, hB⟩ := hrel
      have hrl := HRl.out k
      have hsz2 : w2.heap.size + 1 ≤ wr.heap.size := by have := hB.size; omega
      by_cases hlt : k < d
      · have c0 := HW.out.cell k (by omega)
        have HT := hid (HRs.out k)
        have HWk := hid (HWt.out k)
        by_cases hw : wrongN g k g.length = 0
        · rw [if_pos hw] at HT HWk
          have HT := hid HT.out
          have HWk := hid HWk.out
          rw [HWk.out, show ((1 : Nat) : Int) = 1 from rfl] at c0
          clear hw HWk
          generalize rightTo g k = pre at *
          go_wp2_with (at_builtin; (refine wpList_append_own _ rfl _ _ 28 rfl (w2.heap.size + 1) 3 i0 (.int .i64 0) 1 8 Try.underlying28 hinf hz0 hz1 hz2 rfl (by decide) _ _ _ rfl (hown.alloc _) ⟨wr.heap.size, 0, none⟩ 1 1 [.int .i64 (k : Int)] rfl rfl ?c1 ?c2 ?c3 ?c4 ?c5 ?_))
          case c1 => exact cell_one_new _ _ _
          case c2 => simp [Value.oneCell']
          case c3 => unfold maxLen; omega
          case c4 => omega
          case c5 => simp; omega
          intro v' w4 hown2 hgrow _
          have p4 := (hB.alloc (by omega) _).grown hgrow (by simp; omega) (fun q hq => by have := (hown.lt q hq).1; omega)
          have HW4 : Hid (WBox w4 w2.heap.size (fun a => wtN 1 g a g.length)) := by unfold Hid; have := HW3.out; unfold WBox at this ⊢; rw [p4.block _ (Nat.lt_succ_self _)]; exact this
          clear hgrow hown
          go_wp2
          go_roundw
          case rel => exact ⟨k + 1, by omega, by go_num, HW4, by rw [HT.out]; simpa using hown2, p4⟩
          case measure => simp [intOf]; omega
        · rw [if_neg hw] at HT HWk
          have HT := hid ((HT.out).trans (List.append_nil _))
          have HWk := hid HWk.out
          rw [HWk.out, show ((0 : Nat) : Int) = 0 from rfl] at c0
          clear hw HWk
          generalize rightTo g k = pre at *
          go_wp2
          go_roundw
          case rel => exact ⟨k + 1, by omega, by go_num, HW, by rw [HT.out]; exact hown, hB⟩
          case measure => simp [intOf]; omega
      · obtain rfl : k = d := by omega
        have HBw := hid (HB3.out.trans (hB.mono (by omega)))
        have hown' : Own wr (w2.heap.size + 1) _ (rightTo g k) := hown
        obtain ⟨R, rc, rfl, hR⟩ := hown'.ints' (by omega) HRb.out
        have HR := hid hR
        have HMr := hid (HM3.out.below (hB.mono (by omega)))
        have HEr := hid (gErrors_of 1 a A g cap c wr (HH.out.below HBw.out) hl24 HMr.out)
        clear hown hR
        by_cases hz : (rightTo g k).length = 0
        · have HE3 := hid ((HE2.out).trans (if_pos hz))
          have hz' : ((rightTo g k).length : Int) = 0 := by omega
          have hz9 : (((rightTo g k).length : Int) == 0) = true := by rw [beq_iff_eq]; omega
          clear hz
          generalize rightTo g k = pre at *
          go_wp2
          exact bodyPost_ret (v := .tuple #[.slice none 0 0, .int .i64 0, .bool false, .int .i64 0]) (by simp [results, Try.results34, go_sem]) rfl ⟨HBw.out, none, 0, by rw [HE3.out]; rfl, by rw [HE3.out]; exact ⟨by simp, .inl rfl, by simp⟩⟩
        · have HE3 := hid ((HE2.out).trans (if_neg hz))
          have hz9 : (((rightTo g k).length : Int) == 0) = false := by rw [beq_eq_false_iff_ne]; omega
          clear hz
          generalize rightTo g k = pre at *
          go_wp2_with fail
          refine HEr.out.mono ?_
          rintro e w9 ⟨n9, rfl, rfl⟩
          go_wp2
          exact bodyPost_ret (v := .tuple #[.slice R pre.length rc, .int .i64 (errN 1 g g.length), .bool true, .int .i64 0]) (by simp [results, Try.results34, go_sem]) rfl ⟨below_drewN HBw.out n9, R, rc, by rw [HE3.out], by rw [HE3.out]; exact HR.out.below (below_drewN (Below.refl _ _) n9)⟩
  · have HE2 := hid ((HE.out).trans (if_neg h0))
    have h1 : (gameN g != 0) = true := by simp [h0]
    clear h h0 HE
    generalize gameN g = v at *
    go_enter Try.func34, Try.ntmps34
    go_wp2_with fail
    refine HC.out.mono ?_
    rintro e w1 ⟨m, rfl, rfl⟩
    have hm0 := hid (below_drewN (Below.refl w.heap.size w) m)
    go_wp2
    exact bodyPost_ret (v := .tuple #[.slice none 0 0, .int .i64 0, .bool false, .int .i64 v]) (by simp [results, Try.results34, go_sem]) rfl ⟨hm0.out, none, 0, by rw [HE2.out]; rfl, by rw [HE2.out]; exact ⟨by simp, .inl rfl, by simp⟩⟩
end Go.Proofs.Ytfjncmhbpfcdiaa
