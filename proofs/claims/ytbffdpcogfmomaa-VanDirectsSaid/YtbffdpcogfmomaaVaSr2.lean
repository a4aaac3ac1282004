/- All tours are tried: package van. -/
import Derived.Test.YtbffdpcogfmomaaVaSr1
set_option linter.unusedVariables false
namespace Go.Proofs.Ytbffdpcogfmomaa
open Go.RowKit

theorem SrS.cell {p : SrP} (hD : SrD p) {w : World} {o : List Int} {s : Option Int} (h : SrS p w o s) (i : Nat) (hi : i < o.length) : w.cell? ⟨p.g, i, none⟩ = some (.int .i64 (vAt o i)) ∧ w.frozen? ⟨p.g, i, none⟩ = false := by
  have ha := h.arr
  rw [h.addr hD (by omega)] at ha
  refine ⟨?_, World.ownsRow.frozenAt ha i⟩
  rw [World.ownsRow.cellAt ha i (by omega), List.getElem?_map]
  simp [vAt, hi]
set_option maxRecDepth 100000 in
set_option maxHeartbeats 8000000 in
theorem from_end {p : SrP} (hD : SrD p) (hC : CostR p) (hg : ∀ args w, (callFunc p.cf args).run Try.prog w = .ok (.enter p.cf args) w) (w : World) (o : List Int) (s : Option Int) (hS : SrS p w o s) :
  Calls Try.prog 98 #[.int .i64 (p.L.length : Int), .pointer (some ⟨p.tv, 0, none⟩), .pointer (some ⟨p.tb, 0, none⟩), .pointer (some ⟨p.fv, 0, none⟩)] w (SrR p w o s p.L.length) := by
  have HT := hid (search1_any hD hC hg w o s hS)
  have HOL := hid hS.len
  have hl7 := hD.ll
  have k1 := one_cell hS.cTour
  have k2 := one_cell hS.cTry
  unfold SrP.tryV at k2
  clear hC hg hS
  go_enter Try.func98, Try.ntmps98
  go_wp2_with fail
  refine HT.out.mono ?_
  rintro e w5 (⟨rfl, hk5, s5, hb5, hs5, hl5⟩ | ⟨F, c, f, rfl, hp⟩)
  · have k3 := one_cell hs5.cTour
    have HK := hid hk5
    have HB := hid hb5
    have HS5 := hid hs5
    have HL := hid hl5
    clear k1 k2 hk5 hb5 hs5 hl5
    go_wp2_with fail
    refine wp_loop_rounds 1 ?_
    rw [rounds_succ]
    go_wp2_with fail
    refine bodyPost_end (v := .tuple #[]) (by simp [results, Try.results98, go_sem]) rfl (.inl ⟨rfl, HK.out, s5, HB.out, HS5.out, ?_⟩)
    rw [← HOL.out]
    exact LowV.end_ HL.out
  · have HP := hid hp
    clear hp
    go_wp2
    exact ⟨rfl, .inr ⟨F, c, f, rfl, HP.out⟩⟩
set_option maxRecDepth 100000 in
set_option maxHeartbeats 8000000 in
theorem from_step {p : SrP} (hD : SrD p) (pl : Nat) (hpl : pl < p.L.length)
  (ih : ∀ (w : World) (o : List Int) (s : Option Int), SrS p w o s → Calls Try.prog 98 #[.int .i64 ((pl : Int) + 1), .pointer (some ⟨p.tv, 0, none⟩), .pointer (some ⟨p.tb, 0, none⟩), .pointer (some ⟨p.fv, 0, none⟩)] w (SrR p w o s (pl + 1)))
  (w : World) (o : List Int) (s : Option Int) (hS : SrS p w o s) :
  Calls Try.prog 98 #[.int .i64 (pl : Int), .pointer (some ⟨p.tv, 0, none⟩), .pointer (some ⟨p.tb, 0, none⟩), .pointer (some ⟨p.fv, 0, none⟩)] w (SrR p w o s pl) := by
  have hol := hS.len
  have hl7 := hD.ll
  have k1 := one_cell hS.cTour
  have hA := hS.addr hD (by omega)
  rw [hA] at k1
  have hpl' : ((pl : Int) == (p.L.length : Int)) = false := by rw [beq_eq_false_iff_ne]; omega
  have HA := hid hA
  have HS := hid hS
  have HD := hid hD
  have HIH := hid ih
  have HOL := hid hol
  have HNd := hid (show o.Nodup from hS.perm.nodup_iff.2 hD.nd)
  clear hS hD ih hol hA
  go_enter Try.func98, Try.ntmps98
  go_wp2_with fail
  clear k1
  go_loopw [5] (fun i wr => ∃ (k : Nat) (s' : Option Int), pl ≤ k ∧ k ≤ p.L.length ∧ i = .int .i64 k ∧ Hid (Better s s') ∧ Hid (SrS p wr o s') ∧ Hid (LowVK p.C p.Al o pl k s') ∧ Hid (Keep3 p.g p.iv p.bv w wr)) (fun i _ => p.L.length - (intOf i).toNat)
  case atStart => exact ⟨pl, s, Nat.le_refl _, by omega, rfl, Better.refl s, HS, LowVK.zero _ _ _ _ _, Keep3.refl _ _ _ _⟩
  case round =>
    obtain ⟨q, s', hpq, hql, rfl, HBt, HSr, HLk, HKr⟩ := hrel
    clear HS
    have k1 := one_cell HSr.out.cTour
    rw [HA.out] at k1
    by_cases hlt : q < p.L.length
    · have hqo : q < o.length := by rw [HOL.out]; exact hlt
      have hpo : pl < o.length := by rw [HOL.out]; exact hpl
      obtain ⟨a1, f1⟩ := HSr.out.cell HD.out pl hpo
      obtain ⟨a2, f2⟩ := HSr.out.cell HD.out q hqo
      have S7 := HSr.out.swap HD.out pl q hpo hqo
      have K7 := swap_keep (p := p) wr o pl q
      have i1 : (q : Int) < (p.L.length : Int) := by omega
      have i2 : (pl : Int) < (p.L.length : Int) := by omega
      have nb1 : p.g ≠ p.tv := Ne.symm HD.out.gt
      have nb2 : p.tv ≠ p.g := HD.out.gt
      clear hqo hpo
      go_wp2_with fail
      rcases Nat.eq_or_lt_of_le hpq with hpq' | hpq'
      · subst hpq'
        go_region
        obtain ⟨wz, hwz⟩ : ∃ wz, ((wr.setCell ⟨p.g, pl, none⟩ (.int .i64 (vAt o pl))).setCell ⟨p.g, pl, none⟩ (.int .i64 (vAt o pl))) = wz := ⟨_, rfl⟩
        rw [hwz] at S7 K7
        have S8 := S7.keep HD.out (Below.refl wz.heap.size wz).drew
        have K8 := hid (K7.trans (Keep3.of (g := p.g) (b2 := p.iv) (b3 := p.bv) (Below.refl wz.heap.size wz).drew))
        obtain ⟨wy, hwy⟩ : ∃ wy, wz.drew = wy := ⟨_, rfl⟩
        rw [hwy] at S8 K8
        first
          | rw [hwz, hwy]
          | (rw [show (((wr.drew.setCell ⟨p.g, pl, none⟩ (.int .i64 (vAt o pl))).setCell ⟨p.g, pl, none⟩ (.int .i64 (vAt o pl)))) = wz.drew by rw [← hwz]; rfl, hwy])
          | (rw [show (((wr.setCell ⟨p.g, pl, none⟩ (.int .i64 (vAt o pl))).setCell ⟨p.g, pl, none⟩ (.int .i64 (vAt o pl)))).drew = wz.drew by rw [← hwz], hwy])
        clear hwy hwz S7 K7
        clear a1 a2 f1 f2 k1
        as_aux_lemma =>
          have HS8 := hid S8
          have HK8 := hid (HKr.out.trans K8.out)
          have k1 := one_cell S8.cTour
          rw [HA.out] at k1
          have k3 := one_cell S8.cFrom
          unfold SrP.fromV at k3
          have HI := hid (HIH.out wy (swapV o pl pl) s' S8)
          have s1 : IntKind.i64.wrap ((pl : Int) + 1) = (pl : Int) + 1 := IntWalk.i64_in _ (by omega)
          clear S8 K8
          go_wp2_with fail
          refine HI.out.mono ?_
          rintro e w5 (⟨rfl, hk5, s5, hb5, hs5, hl5⟩ | ⟨F, c, f, rfl, hp⟩)
          · have hzl := swapV_len o pl pl
            have hpo : pl < (swapV o pl pl).length := by rw [hzl, HOL.out]; exact hpl
            have hqo : pl < (swapV o pl pl).length := by rw [hzl, HOL.out]; exact hpl
            have hw := swapV_swapV o pl pl (by rw [HOL.out]; exact hpl) (by rw [HOL.out]; exact hpl)
            obtain ⟨a1, f1⟩ := hs5.cell HD.out pl hpo
            obtain ⟨a2, f2⟩ := hs5.cell HD.out pl hqo
            have S9 := hs5.swap HD.out pl pl hpo hqo
            rw [hw] at S9
            have K9 := swap_keep (p := p) w5 (swapV o pl pl) pl pl
            have k1' := one_cell hs5.cTour
            rw [HA.out] at k1'
            have HBt5 := hid (HBt.out.trans hb5)
            have HL5 := hid (HLk.out.more hb5 hl5)
            have HK5 := hid (HK8.out.trans hk5)
            clear k1 k3 hk5 hs5 hl5 hb5 hzl hpo hqo hw HS8 HI
            go_wp2_with fail
            go_region
            obtain ⟨wz, hwz⟩ : ∃ wz, ((w5.setCell ⟨p.g, pl, none⟩ (.int .i64 (vAt (swapV o pl pl) pl))).setCell ⟨p.g, pl, none⟩ (.int .i64 (vAt (swapV o pl pl) pl))) = wz := ⟨_, rfl⟩
            rw [hwz] at S9 K9
            have S8 := S9.keep HD.out (Below.refl wz.heap.size wz).drew
            have K8 := hid (K9.trans (Keep3.of (g := p.g) (b2 := p.iv) (b3 := p.bv) (Below.refl wz.heap.size wz).drew))
            obtain ⟨wy, hwy⟩ : ∃ wy, wz.drew = wy := ⟨_, rfl⟩
            rw [hwy] at S8 K8
            first
              | rw [hwz, hwy]
              | (rw [show (((w5.drew.setCell ⟨p.g, pl, none⟩ (.int .i64 (vAt (swapV o pl pl) pl))).setCell ⟨p.g, pl, none⟩ (.int .i64 (vAt (swapV o pl pl) pl)))) = wz.drew by rw [← hwz]; rfl, hwy])
              | (rw [show (((w5.setCell ⟨p.g, pl, none⟩ (.int .i64 (vAt (swapV o pl pl) pl))).setCell ⟨p.g, pl, none⟩ (.int .i64 (vAt (swapV o pl pl) pl)))).drew = wz.drew by rw [← hwz], hwy])
            clear hwy hwz S9 K9
            have HS9 := hid S8
            have HK9 := hid (HK5.out.trans K8.out)
            clear a1 a2 f1 f2 k1' S8 K8
            go_wp2
            go_roundw
            case rel => exact ⟨pl + 1, s5, by omega, by omega, by go_num, HBt5, HS9, HL5, HK9⟩
            case measure => simp [intOf]; omega
          · have HP := hid hp
            clear hp k1 k3
            go_wp2
            exact ⟨rfl, .inr ⟨F, c, f, rfl, HP.out⟩⟩
      · have hne : ¬ pl = q := by omega
        have hne' : ¬ q = pl := by omega
        go_region
        obtain ⟨wz, hwz⟩ : ∃ wz, ((wr.setCell ⟨p.g, pl, none⟩ (.int .i64 (vAt o q))).setCell ⟨p.g, q, none⟩ (.int .i64 (vAt o pl))) = wz := ⟨_, rfl⟩
        rw [hwz] at S7 K7
        have S8 := S7.keep HD.out (Below.refl wz.heap.size wz).drew
        have K8 := hid (K7.trans (Keep3.of (g := p.g) (b2 := p.iv) (b3 := p.bv) (Below.refl wz.heap.size wz).drew))
        obtain ⟨wy, hwy⟩ : ∃ wy, wz.drew = wy := ⟨_, rfl⟩
        rw [hwy] at S8 K8
        first
          | rw [hwz, hwy]
          | (rw [show (((wr.drew.setCell ⟨p.g, pl, none⟩ (.int .i64 (vAt o q))).setCell ⟨p.g, q, none⟩ (.int .i64 (vAt o pl)))) = wz.drew by rw [← hwz]; rfl, hwy])
          | (rw [show (((wr.setCell ⟨p.g, pl, none⟩ (.int .i64 (vAt o q))).setCell ⟨p.g, q, none⟩ (.int .i64 (vAt o pl)))).drew = wz.drew by rw [← hwz], hwy])
        clear hwy hwz S7 K7
        clear a1 a2 f1 f2 k1
        as_aux_lemma =>
          have HS8 := hid S8
          have HK8 := hid (HKr.out.trans K8.out)
          have k1 := one_cell S8.cTour
          rw [HA.out] at k1
          have k3 := one_cell S8.cFrom
          unfold SrP.fromV at k3
          have HI := hid (HIH.out wy (swapV o pl q) s' S8)
          have s1 : IntKind.i64.wrap ((pl : Int) + 1) = (pl : Int) + 1 := IntWalk.i64_in _ (by omega)
          clear S8 K8
          go_wp2_with fail
          refine HI.out.mono ?_
          rintro e w5 (⟨rfl, hk5, s5, hb5, hs5, hl5⟩ | ⟨F, c, f, rfl, hp⟩)
          · have hzl := swapV_len o pl q
            have hpo : pl < (swapV o pl q).length := by rw [hzl, HOL.out]; exact hpl
            have hqo : q < (swapV o pl q).length := by rw [hzl, HOL.out]; exact hlt
            have hw := swapV_swapV o pl q (by rw [HOL.out]; exact hpl) (by rw [HOL.out]; exact hlt)
            obtain ⟨a1, f1⟩ := hs5.cell HD.out pl hpo
            obtain ⟨a2, f2⟩ := hs5.cell HD.out q hqo
            have S9 := hs5.swap HD.out pl q hpo hqo
            rw [hw] at S9
            have K9 := swap_keep (p := p) w5 (swapV o pl q) pl q
            have k1' := one_cell hs5.cTour
            rw [HA.out] at k1'
            have HBt5 := hid (HBt.out.trans hb5)
            have HL5 := hid (HLk.out.more hb5 hl5)
            have HK5 := hid (HK8.out.trans hk5)
            clear k1 k3 hk5 hs5 hl5 hb5 hzl hpo hqo hw HS8 HI
            go_wp2_with fail
            go_region
            obtain ⟨wz, hwz⟩ : ∃ wz, ((w5.setCell ⟨p.g, pl, none⟩ (.int .i64 (vAt (swapV o pl q) q))).setCell ⟨p.g, q, none⟩ (.int .i64 (vAt (swapV o pl q) pl))) = wz := ⟨_, rfl⟩
            rw [hwz] at S9 K9
            have S8 := S9.keep HD.out (Below.refl wz.heap.size wz).drew
            have K8 := hid (K9.trans (Keep3.of (g := p.g) (b2 := p.iv) (b3 := p.bv) (Below.refl wz.heap.size wz).drew))
            obtain ⟨wy, hwy⟩ : ∃ wy, wz.drew = wy := ⟨_, rfl⟩
            rw [hwy] at S8 K8
            first
              | rw [hwz, hwy]
              | (rw [show (((w5.drew.setCell ⟨p.g, pl, none⟩ (.int .i64 (vAt (swapV o pl q) q))).setCell ⟨p.g, q, none⟩ (.int .i64 (vAt (swapV o pl q) pl)))) = wz.drew by rw [← hwz]; rfl, hwy])
              | (rw [show (((w5.setCell ⟨p.g, pl, none⟩ (.int .i64 (vAt (swapV o pl q) q))).setCell ⟨p.g, q, none⟩ (.int .i64 (vAt (swapV o pl q) pl)))).drew = wz.drew by rw [← hwz], hwy])
            clear hwy hwz S9 K9
            have HS9 := hid S8
            have HK9 := hid (HK5.out.trans K8.out)
            clear a1 a2 f1 f2 k1' S8 K8
            go_wp2
            go_roundw
            case rel => exact ⟨q + 1, s5, by omega, by omega, by go_num, HBt5, HS9, HL5, HK9⟩
            case measure => simp [intOf]; omega
          · have HP := hid hp
            clear hp k1 k3
            go_wp2
            exact ⟨rfl, .inr ⟨F, c, f, rfl, HP.out⟩⟩
    · obtain rfl : q = p.L.length := by omega
      have HLA := hid (show LowV p.C p.Al o pl s' from LowVK.all HNd.out (by rw [HOL.out]; exact hpl) (by rw [HOL.out]; exact HLk.out))
      go_wp2_with fail
      exact bodyPost_end (v := .tuple #[]) (by simp [results, Try.results98, go_sem]) rfl (.inl ⟨rfl, HKr.out, s', HBt.out, HSr.out, HLA.out⟩)
theorem from_any {p : SrP} (hD : SrD p) (hC : CostR p) (hg : ∀ args w, (callFunc p.cf args).run Try.prog w = .ok (.enter p.cf args) w) : ∀ (d pl : Nat), pl + d = p.L.length → ∀ (w : World) (o : List Int) (s : Option Int), SrS p w o s →
  Calls Try.prog 98 #[.int .i64 (pl : Int), .pointer (some ⟨p.tv, 0, none⟩), .pointer (some ⟨p.tb, 0, none⟩), .pointer (some ⟨p.fv, 0, none⟩)] w (SrR p w o s pl) := by
  intro d
  induction d with
  | zero =>
    intro pl h w o s hS
    obtain rfl : pl = p.L.length := by omega
    exact from_end hD hC hg w o s hS
  | succ d ih =>
    intro pl h w o s hS
    exact from_step hD pl (by omega) (fun w o s hS => by
      have := ih (pl + 1) (by omega) w o s hS
      rw [show ((pl + 1 : Nat) : Int) = (pl : Int) + 1 by omega] at this
      exact this) w o s hS
end Go.Proofs.Ytbffdpcogfmomaa
