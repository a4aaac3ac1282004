/- The bound of potentials: package van. -/
import Derived.Test.YtbffdpcogfmomaaVaTreeW
import Derived.Test.YtbffdpcogfmomaaVaRows
set_option linter.unusedVariables false
namespace Go.Proofs.Ytbffdpcogfmomaa
open Go.RowKit

theorem stops_two (n : Nat) (h : 3 ≤ n) : (stopsL n).length = n - 1 ∧ 0 < (stopsL n).length := by rw [stopsL_len]; omega
/-- The nearest stop, and the nearest of the others. -/
theorem two_near {c : Tbl} {n bb bc : Nat} (h3 : 3 ≤ n) (h1 : NearI (tR c 0) (stopsL n) bb) (h2 : NearI (tR c 0) ((stopsL n).eraseIdx bb) bc) : IsTwo c n (tA c 0 (vAt (stopsL n) bb) + tA c 0 (vAt ((stopsL n).eraseIdx bb) bc)) := by
  have hp := eraseIdx_cons (stopsL n) bb h1.lt
  have hnd := hp.nodup_iff.2 (stopsL_nodup n)
  rw [List.nodup_cons] at hnd
  have m1 := vAt_mem h1.lt
  have m2 := vAt_mem h2.lt
  have m2' : vAt ((stopsL n).eraseIdx bb) bc ∈ stopsL n := hp.mem_iff.1 (List.mem_cons_of_mem _ m2)
  refine IsTwo.of ((stopsL_mem n _).1 m1) ((stopsL_mem n _).1 m2') (fun e => hnd.1 (e ▸ m2)) (fun z hz1 hz2 => ?_) (fun z hz1 hz2 hz3 => ?_)
  · obtain ⟨i, hi, rfl⟩ := mem_vAt ((stopsL_mem n z).2 ⟨hz1, hz2⟩)
    exact h1.le i hi
  · have hz := hp.mem_iff.2 ((stopsL_mem n z).2 ⟨hz1, hz2⟩)
    rcases List.mem_cons.1 hz with e | hz
    · exact absurd e hz3
    · obtain ⟨i, hi, rfl⟩ := mem_vAt hz
      exact h2.le i hi
/-- What boundOf answers: the bound, and degrees. -/
def BoundV (t : Tbl) (p : List Int) (w : World) (en : Ending) (w' : World) : Prop :=
  Below w.heap.size w w' ∧ ∃ (B : Int) (g : Nat) (ds : List Int), en = .returned (.tuple #[.int .i64 B, .slice (some ⟨g, 0, none⟩) t.length t.length]) ∧ BoundIs t p B ∧ w.heap.size ≤ g ∧ w'.heap[g]? = some (.cells (cellsV ds) 3 (0, 0)) ∧ ds.length = t.length ∧ (∀ x ∈ ds, 0 ≤ x ∧ x ≤ 20)
def sumT (p : List Int) (k : Nat) : Int := (p.take k).sum
theorem sumT_succ (p : List Int) (k : Nat) (h : k < p.length) : sumT p (k + 1) = sumT p k + vAt p k := by
  unfold sumT
  rw [List.take_succ_eq_append_getElem h, List.sum_append]
  simp [vAt, h]
theorem sumT_bd {p : List Int} {n : Nat} (h : Pots p n) (hn : n ≤ 7) (k : Nat) (hk : k ≤ p.length) : -7000 ≤ sumT p k ∧ sumT p k ≤ 7000 := by
  have := sum_bd (p.take k) 1000 (fun x hx => h.bd x (List.mem_of_mem_take hx))
  have hl := h.len
  rw [List.length_take, Nat.min_eq_left hk] at this
  unfold sumT
  omega
/-- The state of the two ways: s the sum, ds the degrees, R the stops left. -/
structure TwoS (W0 : World) (c : Tbl) (n g : Nat) (m : Int) (j : Nat) (w : World) (s : Int) (ds R : List Int) (vL : Value) : Prop where
  below : Below W0.heap.size W0 w
  deg : w.heap[g]? = some (.cells (cellsV ds) 3 (0, 0))
  lef : Own w (g + 1) vL R
  dl : ds.length = n
  db : ∀ x ∈ ds, 0 ≤ x ∧ x ≤ 12 + 2 * (j : Int)
  rin : ∀ x ∈ R, 1 ≤ x ∧ x < n
  rl : R.length + j + 1 = n
  sb : -21000 - 3000 * (j : Int) ≤ s ∧ s ≤ 21000 + 3000 * (j : Int)
  st : (j = 0 ∧ R = stopsL n ∧ s = m) ∨ (j = 1 ∧ ∃ bb, NearI (tR c 0) (stopsL n) bb ∧ R = (stopsL n).eraseIdx bb ∧ s = m + tA c 0 (vAt (stopsL n) bb)) ∨ (j = 2 ∧ ∃ two, IsTwo c n two ∧ s = m + two)
theorem TwoS.next {W0 : World} {c : Tbl} {n g : Nat} {m : Int} {j : Nat} {w w5 w7 : World} {s : Int} {ds ds' R : List Int} {gl cl bb : Nat} (hs : Sq c n) (h3 : 3 ≤ n) (hg : W0.heap.size ≤ g) (hgl : g + 1 ≤ gl) (hj : j < 2)
    (h : TwoS W0 c n g m j w s ds R (.slice (some ⟨gl, 0, none⟩) R.length cl)) (hN : NearI (tR c 0) R bb) (hk5 : Keep1 g w w5) (hd5 : w5.heap[g]? = some (.cells (cellsV ds') 3 (0, 0))) (hdl : ds'.length = n) (hdb : ∀ x ∈ ds', 0 ≤ x ∧ x ≤ 12 + 2 * (j : Int) + 2)
    (hk7 : Keep1 gl w5 w7) (ho7 : Own w7 (g + 1) (.slice (some ⟨gl, 0, none⟩) (R.eraseIdx bb).length cl) (R.eraseIdx bb)) :
    TwoS W0 c n g m (j + 1) w7 (s + tA c 0 (vAt R bb)) ds' (R.eraseIdx bb) (.slice (some ⟨gl, 0, none⟩) (R.eraseIdx bb).length cl) := by
  have hb5 := hk5.below (base := g) (Nat.le_refl _) (Nat.le_of_lt (lt_block h.deg))
  have hg5 := lt_block hd5
  have hb7 := hk7.below (base := g) (by omega) (by omega)
  have hel : (R.eraseIdx bb).length = R.length - 1 := by rw [List.length_eraseIdx, if_pos hN.lt]
  have hRl := h.rl
  have hlt := hN.lt
  have hm := h.rin _ (vAt_mem hlt)
  have hw := hs.bdI 0 (vAt R bb) ⟨by omega, by omega⟩ ⟨by omega, hm.2⟩
  have hsb := h.sb
  refine ⟨(h.below.trans (hb5.mono hg)).trans (hb7.mono hg), by rw [hk7.block g hg5 (by omega)]; exact hd5, ho7, hdl, fun x hx => by have := hdb x hx; omega, fun x hx => h.rin x ((eraseIdx_cons R bb hlt).mem_iff.1 (List.mem_cons_of_mem _ hx)), by omega, by omega, ?_⟩
  rcases h.st with ⟨rfl, rfl, rfl⟩ | ⟨rfl, b0, h1, rfl, rfl⟩ | ⟨rfl, _⟩
  · exact .inr (.inl ⟨rfl, bb, hN, rfl, rfl⟩)
  · exact .inr (.inr ⟨rfl, _, two_near h3 h1 hN, by omega⟩)
  · omega
theorem TwoS.keep {W0 : World} {c : Tbl} {n g : Nat} {m : Int} {j : Nat} {w w' : World} {s : Int} {ds R : List Int} {vL : Value} (hg : W0.heap.size ≤ g) (h : TwoS W0 c n g m j w s ds R vL) (hb : Below w.heap.size w w') : TwoS W0 c n g m j w' s ds R vL :=
  ⟨h.below.trans (hb.mono (by have := lt_block h.deg; omega)), by rw [hb.block _ (lt_block h.deg)]; exact h.deg, h.lef.below hb, h.dl, h.db, h.rin, h.rl, h.sb, h.st⟩
set_option maxRecDepth 100000 in
set_option maxHeartbeats 8000000 in
theorem vBoundOf_any (a A : Option Addr) (t : Tbl) (p : List Int) (cap c : Nat) (w : World) (h : TabAt w a t) (hi : Ints w A p) (ht : Ways t) (hp : Pots p t.length) (h3 : 3 ≤ t.length) :
  Calls Try.prog 73 #[.slice a t.length cap, .slice A p.length c] w (BoundV t p w) := by
  obtain ⟨i0, hinf, hz0, hz1, hz2⟩ := info_parts int_info
  have hl7 := ht.len
  have hpl := hp.len
  have HCn := hid (vCounted_any a A t p cap c w h hi ht hp)
  have HI := hid hi
  have HT := hid ht
  have HPo := hid hp
  have HSq := hid (cnt_sq ht hp)
  have hpl1 : p.length ≤ 7 := by omega
  have HPL := hid hpl
  clear h hi ht hp hpl
  go_enter Try.func73, Try.ntmps73
  go_wp2_with fail
  refine HCn.out.mono ?_
  rintro e w1 ⟨hb1, B0, d0, rfl, hT1⟩
  have HB1 := hid hb1
  have HT1 := hid hT1
  have HTr := hid (vTree_any B0 (cntT t p) d0 t.length 1 w1 hT1 HSq.out (by omega))
  clear hb1 hT1 HCn
  go_wp2_with fail
  refine HTr.out.mono ?_
  rintro e w2 ⟨hb2, m, ds, rfl, hM, hdg, hdl, hdb, hm1, hm2⟩
  have hM' := hM
  rw [plL_one t.length (by omega)] at hM'
  have HM := hid hM'
  have HB2 := hid hb2
  have HDG := hid hdg
  have HDB := hid hdb
  have HDL := hid hdl
  have HAl := hid (vAllStops_any t.length hl7 (by omega) w2)
  have hDl := lt_block hdg
  clear hb2 hM hM' hdg hdb HTr hdl
  go_wp2_with fail
  refine HAl.out.mono ?_
  rintro e w3 ⟨hb3, A3, c3, rfl, hO3⟩
  have HS0 : Hid (TwoS w1 (cntT t p) t.length w1.heap.size m 0 w3 m ds (stopsL t.length) (.slice A3 (stopsL t.length).length c3)) := by
    refine ⟨HB2.out.trans (hb3.mono (by omega)), by rw [hb3.block _ hDl]; exact HDG.out, own_weak hO3 (by omega), HDL.out, fun x hx => by have := HDB.out x hx; omega, fun x hx => (stopsL_mem _ x).1 hx, by rw [stopsL_len]; omega, by omega, .inl ⟨rfl, rfl, rfl⟩⟩
  clear hb3 hO3 HAl HDG HDB HDL hm1 hm2
  go_wp2_with fail
  go_loopw [7, 9, 25] (fun s vl i wr => ∃ (j : Nat) (ds R : List Int) (x : Int) (A : Option Addr) (c : Nat), j ≤ 2 ∧ i = .int .i64 j ∧ s = .int .i64 x ∧ vl = .slice A R.length c ∧ Hid (TwoS w1 (cntT t p) t.length w1.heap.size m j wr x ds R (.slice A R.length c))) (fun _ _ i _ => 2 - (intOf i).toNat)
  case atStart => exact ⟨0, ds, stopsL t.length, m, A3, c3, by omega, rfl, rfl, rfl, HS0⟩
  case round =>
    obtain ⟨j, ds, R, s, A4, c4, hj, rfl, rfl, rfl, HS⟩ := hrel
    clear HS0
    by_cases hlt : j < 2
    · have hrl := HS.out.rl
      have h0 : 0 < R.length := by omega
      have hR7 : R.length ≤ 7 := by omega
      obtain ⟨gl, cl, curl, hv, hgl, _⟩ := own_some HS.out.lef h0
      simp only [Value.slice.injEq, true_and] at hv
      obtain ⟨rfl, rfl⟩ := hv
      have HRin := hid HS.out.rin
      have HIR := hid (own_intsG HS.out.lef (by omega) (fun x hx => by have := HRin.out x hx; omega))
      have HRl := hid hrl
      clear hrl
      obtain ⟨b, off, rfl, hc⟩ := (HT1.out.below HS.out.below).sq HSq.out (by omega)
      obtain ⟨b2, o2, c2, g1, gI, g2⟩ := hc 0 (by omega)
      rw [Nat.add_zero] at g1
      have HN := hid (vNear_row wr b2 o2 c2 t.length (tR (cntT t p) 0) (HSq.out.rows 0 (by omega)) gI (some ⟨gl, 0, none⟩) R c4 HIR.out h0 (by omega) (fun x hx => by have := HRin.out x hx; omega))
      have hn0 : (0 : Int) < (t.length : Int) := by omega
      have G1 := hid g1
      have G2 := hid g2
      clear gI hc g2
      go_wp2_with fail
      refine HN.out.mono ?_
      rintro e w5 ⟨q5, bb, hw5, rfl, hN5⟩
      have hb5 : Below wr.heap.size wr w5 := by rw [hw5]; exact below_drewN (Below.refl _ _) _
      have S5 := HS.out.keep (Nat.le_refl _) hb5
      have HS5 := hid S5
      have HN5 := hid hN5
      have hbl := hN5.lt
      have m1 := HRin.out _ (vAt_mem hbl)
      obtain ⟨bR, oR, heR, hcR⟩ := (HIR.out.below hb5).at' h0
      cases heR
      have r1 := hcR bb hbl
      rw [Nat.zero_add, show R[bb]?.getD 0 = vAt R bb from rfl] at r1
      have HV := hid (show ∃ y, vAt R bb = y from ⟨_, rfl⟩)
      obtain ⟨y, hy⟩ := HV.out
      rw [hy] at r1 m1
      obtain ⟨yn, rfl⟩ := Int.eq_ofNat_of_zero_le (show 0 ≤ y by omega)
      have HY := hid hy
      have hyn : yn < t.length := by omega
      have g1' := (hb5.cell (cell_lt G1.out)).trans G1.out
      have g2' := (hb5.cell (cell_lt (G2.out yn hyn))).trans (G2.out yn hyn)
      rw [show tA (cntT t p) ((0 : Nat) : Int) (yn : Int) = tA (cntT t p) 0 (yn : Int) from rfl] at g2'
      have hwb := HSq.out.bdI 0 yn ⟨by omega, by omega⟩ ⟨by omega, by omega⟩
      have HE := hid (show tA (cntT t p) 0 (vAt R bb) = tA (cntT t p) 0 (yn : Int) by rw [hy])
      have hsb := S5.sb
      have hD := S5.deg
      have HDL := hid S5.dl
      have hne : ¬ 0 = yn := by omega
      have hne' : ¬ yn = 0 := by omega
      have d1 := arrV_cell hD 0 (by rw [HDL.out]; omega)
      have d2 := arrV_cell hD yn (by rw [HDL.out]; omega)
      have df := arrV_free hD
      have HDS := hid (show (incD ds 0)[yn]?.getD 0 = ds[yn]?.getD 0 by simp [incD, hne])
      have v1b := S5.db _ (show ds[0]?.getD 0 ∈ ds by rw [List.getElem?_eq_getElem (by rw [HDL.out]; omega)]; simp)
      have v2b := S5.db _ (show ds[yn]?.getD 0 ∈ ds by rw [List.getElem?_eq_getElem (by rw [HDL.out]; omega)]; simp)
      have K5 := hid (show Keep1 w1.heap.size w5 ((w5.setCell ⟨w1.heap.size, 0, none⟩ (.int .i64 (ds[0]?.getD 0 + 1))).setCell ⟨w1.heap.size, yn, none⟩ (.int .i64 (ds[yn]?.getD 0 + 1))) from setCell_keep1 (setCell_keep1 ⟨rfl, rfl, rfl, Nat.le_refl _, fun _ _ _ => rfl⟩ _ _) _ _)
      have D5 := hid (show ((w5.setCell ⟨w1.heap.size, 0, none⟩ (.int .i64 (ds[0]?.getD 0 + 1))).setCell ⟨w1.heap.size, yn, none⟩ (.int .i64 (ds[yn]?.getD 0 + 1))).heap[w1.heap.size]? = some (.cells (cellsV (incD (incD ds 0) yn)) 3 (0, 0)) by
        have := arrV_store (arrV_store hD 0 (ds[0]?.getD 0 + 1)) yn (ds[yn]?.getD 0 + 1)
        rw [this]; unfold incD; rw [show (ds.set 0 (ds[0]?.getD 0 + 1))[yn]?.getD 0 = ds[yn]?.getD 0 from HDS.out])
      have L5 := hid (own_keep1 S5.lef K5.out (by omega))
      have HDel := hid (vDelete_any _ (w1.heap.size + 1) gl c4 R bb L5.out hbl (by omega))
      have s7 : IntKind.i64.wrap ((bb : Int) + 1) = (bb : Int) + 1 := IntWalk.i64_in _ (by omega)
      have q3 : (yn : Int) < (t.length : Int) := by omega
      have q4 : (bb : Int) < (R.length : Int) := by omega
      clear hy HV hcR S5 hD HDS hN5 hw5 hb5 g1
      generalize tA (cntT t p) 0 (yn : Int) = e1 at *
      generalize ds[0]?.getD 0 = v1 at *
      generalize ds[yn]?.getD 0 = v2 at *
      go_wp2_with fail
      refine HDel.out.mono ?_
      rintro e w7 ⟨hk7, rfl, ho7⟩
      have T7 := hid (TwoS.next HSq.out h3 (Nat.le_refl _) hgl hlt HS5.out HN5.out K5.out D5.out (by rw [incD_len, incD_len, HDL.out]) (fun z hz => by
        have := incD_bd (by rw [incD_len, HDL.out]; omega) (incD_bd (by rw [HDL.out]; omega) HS5.out.db) z hz; omega) hk7 ho7)
      rw [HE.out] at T7
      clear hk7 ho7
      go_wp2
      go_roundw
      case rel =>
        exact ⟨j + 1, incD (incD ds 0) yn, R.eraseIdx bb, s + e1, some ⟨gl, 0, none⟩, c4, by omega, by go_num, by go_num, rfl, T7⟩
      case measure => simp [intOf]; omega
    · obtain rfl : j = 2 := by omega
      have hsb := HS.out.sb
      have HTwo := hid (show ∃ two, IsTwo (cntT t p) t.length two ∧ s = m + two by
        rcases HS.out.st with ⟨h, _⟩ | ⟨h, _⟩ | ⟨_, h⟩
        · omega
        · omega
        · exact h)
      have HDg := hid HS.out.deg
      have HDl := hid HS.out.dl
      have HDb := hid HS.out.db
      have HBl := hid (HB1.out.trans (HS.out.below.mono HB1.out.size))
      have hzz := HB1.out.size
      clear HS
      generalize wr = wo at *
      go_wp2_with fail
      go_loop [7, 63] (fun v i => ∃ (k : Nat), k ≤ p.length ∧ i = .int .i64 k ∧ v = .int .i64 (s - 2 * sumT p k)) (fun _ i => p.length - (intOf i).toNat)
      case atStart => exact ⟨0, Nat.zero_le _, rfl, by simp [sumT]⟩
      case round =>
        obtain ⟨k, hk, rfl, rfl⟩ := hrel
        have hsk := sumT_bd HPo.out hl7 k hk
        by_cases hlk : k < p.length
        · obtain ⟨b1, o1, rfl, hc1⟩ := (HI.out.below HBl.out).at' (by omega)
          have c0 := hc1 k hlk
          rw [show p[k]?.getD 0 = vAt p k from rfl] at c0
          have hpk := HPo.out.at_ k (by rw [← HPL.out]; exact hlk)
          have HSk := hid (sumT_succ p k hlk)
          clear hc1
          generalize sumT p k = sk at *
          generalize vAt p k = x at *
          go_wp2
          go_round
          case rel => exact ⟨k + 1, by omega, by go_num, by rw [HSk.out]; congr 1; omega⟩
          case measure => simp [intOf]; omega
        · obtain rfl : k = p.length := by omega
          have HSu := hid (show sumT p p.length = p.sum by unfold sumT; rw [List.take_length])
          generalize sumT p p.length = sk at *
          go_wp2
          go_ret2
          obtain ⟨two, h1, h2⟩ := HTwo.out
          exact ⟨HBl.out, s - 2 * sk, w1.heap.size, ds, rfl, ⟨m, two, HM.out, h1, by rw [← HSu.out, h2]⟩, hzz, HDg.out, HDl.out, fun x hx => by have := HDb.out x hx; omega⟩
end Go.Proofs.Ytbffdpcogfmomaa
