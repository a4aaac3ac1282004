/- The document's bound, the walk: chapter 8. -/
import Derived.Test.YtbffdpcogfmomaaVaBR
import Derived.Test.YtbffdpcogfmomaaVaRaise
set_option linter.unusedVariables false
namespace Go.Proofs.Ytbffdpcogfmomaa
open Go.RowKit

set_option maxRecDepth 100000 in
set_option maxHeartbeats 16000000 in
theorem rBoundP_any (a A : Option Addr) (t : Tbl) (p : List Int) (cap c : Nat) (w : World) (h : TabAt w a t) (hi : Ints w A p) : Calls Try.prog 33 #[.slice a t.length cap, .slice A p.length c] w (NumE w (fun B => BoundIs t p B) (ptE t p)) := by
  have HV := hid (rValidate_any a t cap w h)
  have htl := h.len
  have hpl := hi.len
  by_cases hv : vaV t = 0
  · rw [hv] at HV
    have HE := hid (fun h2 => ptE_one (t := t) (p := p) hv h2)
    have HO := hid (fun h2 => ptE_ok (t := t) (p := p) hv h2)
    have HI := hid hi
    have HTb := hid h
    have ht := (ways_iff t).1 hv
    have hl7 := ht.len
    have HT := hid ht
    clear h hi hv ht
    by_cases h3 : t.length < 3
    · have HN := hid (HE.out (fun h => by omega))
      have h3' : (t.length : Int) < 3 := by omega
      clear HE HO h3
      go_enter Try.func33, Try.ntmps33
      go_wp2_with fail
      refine HV.out.mono ?_
      rintro e w1 ⟨hb1, rfl⟩
      have HB1 := hid hb1
      clear hb1
      go_wp2
      go_ret2
      exact ⟨HB1.out, .inl ⟨by rw [HN.out]; decide, by rw [HN.out]; rfl⟩⟩
    · have h3' : ¬ (t.length : Int) < 3 := by omega
      by_cases hpt : p.length = t.length
      · have HE2 := hid (fun (e : potsB p = false) => HE.out (fun h => by rw [e] at h; simp at h))
        have HO2 := hid (fun (e : potsB p = true) => HO.out ⟨by omega, hpt, e⟩)
        have HPL := hid hpt
        have hne2 : ((p.length : Int) != (t.length : Int)) = false := by simp; omega
        have h33 : 3 ≤ t.length := by omega
        have hne0 : ((t.length : Int) != (t.length : Int)) = false := by simp
        clear HE HO h3
        rw [hpt]
        clear hpt hne2
        obtain ⟨n, hn⟩ : ∃ n, t.length = n := ⟨_, rfl⟩
        have HNn := hid hn
        rw [hn] at hl7 h33 hne0 htl h3' HV
        rw [hn]
        clear hn
        have hn0 : (3 : Int) ≤ (n : Int) := by omega
        clear h3'
        go_enter Try.func33, Try.ntmps33
        go_wp2_with fail
        refine HV.out.mono ?_
        rintro e w1 ⟨hb1, rfl⟩
        have HB1 := hid hb1
        clear hb1 HV
        go_wp2_with fail
        go_loop [8, 9] (fun v i => ∃ (k : Nat), k ≤ n ∧ i = .int .i64 k ∧ v = .int .i64 (sumT p k) ∧ Hid (∀ j, j < k → zin (vAt p j) (-1000) 1000 = true)) (fun _ i => n - (intOf i).toNat)
        case atStart => exact ⟨0, Nat.zero_le _, rfl, rfl, fun j hj => by omega⟩
        case round =>
          obtain ⟨k, hk, rfl, rfl, HG⟩ := hrel
          have hsk := sumT_bd2 (p := p) (k := k) (by rw [HPL.out, HNn.out]; exact hk) HG.out
          by_cases hlt : k < n
          · obtain ⟨b, off, rfl, hc⟩ := (HI.out.below HB1.out).at' (by rw [HPL.out, HNn.out]; omega)
            have c0 := hc k (by rw [HPL.out, HNn.out]; exact hlt)
            rw [show p[k]?.getD 0 = vAt p k from rfl] at c0
            have HBad := hid (fun e => HE2.out (potsB_bad (by rw [HPL.out, HNn.out]; exact hlt) e))
            have HGs := hid (fun (e : zin (vAt p k) (-1000) 1000 = true) => show ∀ j, j < k + 1 → zin (vAt p j) (-1000) 1000 = true from fun j hj => by
              rcases Nat.lt_or_ge j k with h | h
              · exact HG.out j h
              · rw [show j = k by omega]; exact e)
            have HSk := hid (sumT_succ p k (by rw [HPL.out, HNn.out]; exact hlt))
            have q1 : (k : Int) < (n : Int) := by omega
            clear hc
            obtain ⟨x, hx⟩ : ∃ x, vAt p k = x := ⟨_, rfl⟩
            rw [hx] at c0 HBad HGs HSk
            clear hx
            have HA := hid (rWithin8_any x (-1000) 1000)
            generalize sumT p k = sk at *
            cases hz : zin x (-1000) 1000 with
            | false =>
              rw [hz] at HA
              have HN := hid (HBad.out hz)
              clear hz HBad HGs
              go_wp2_with fail
              refine (HA.out _).mono ?_
              rintro e w2 ⟨rfl, rfl⟩
              go_wp2
              go_ret2
              exact ⟨HB1.out, .inl ⟨by rw [HN.out]; decide, by rw [HN.out]; rfl⟩⟩
            | true =>
              rw [hz] at HA
              have HN := hid (HGs.out hz)
              have hxb : -1000 ≤ x ∧ x ≤ 1000 := of_decide_eq_true hz
              clear hz HBad HGs
              go_wp2_with fail
              refine (HA.out _).mono ?_
              rintro e w2 ⟨rfl, rfl⟩
              go_wp2
              go_round
              case rel => exact ⟨k + 1, by omega, by go_num, by rw [HSk.out], HN⟩
              case measure => simp [intOf]; omega
          · obtain rfl : k = n := by omega
            have HP0 := hid (show potsB p = true from List.all_eq_true.2 fun x hx => by
              obtain ⟨j, hj, rfl⟩ := mem_vAt hx
              rw [HPL.out, HNn.out] at hj
              exact HG.out j hj)
            have HZ := hid (HO2.out HP0.out)
            have HPo := hid (show Pots p k from by
              have := ((ptE_iff t p).1 HZ.out).2.2
              rwa [HNn.out] at this)
            have hsq := HT.out.sq
            rw [HNn.out] at hsq
            have HSq := hid hsq
            have hcs : Sq (cntT t p) k := by
              have := cnt_sq HT.out (p := p) (by rw [HNn.out]; exact HPo.out)
              rwa [HNn.out] at this
            have HCs := hid hcs
            have HSu := hid (show sumT p k = p.sum by unfold sumT; rw [← HNn.out, ← HPL.out, List.take_length])
            have HCp := hid (rCopy_sq a t cap k w1 (HTb.out.below HB1.out) hsq (by omega))
            clear HG HP0 HE2 HO2 hsq hcs
            generalize sumT p k = sk at *
            go_wp2_with fail
            refine HCp.out.mono ?_
            rintro e w2 ⟨hb2, B, d, G, C, rfl, hW⟩
            have HB2 := hid hb2
            have hWU : WayT w2 w1.heap.size k (.slice B k d) G C (RowsU t p k 0 0) k := by
              refine ⟨hW.out, fun i hi => ?_, fun i hi => ?_, hW.inj⟩
              · have e : RowsU t p k 0 0 i = tR t i := by
                  simp only [RowsU, Nat.not_lt_zero, if_false]
                  by_cases e : i = 0
                  · rw [if_pos e, rowU_zero (HSq.out.rows i hi)]
                  · rw [if_neg e, rowU_zero (HSq.out.rows i hi)]
                rw [e]; exact hW.rows i hi
              · simp only [RowsU]; split <;> (try split) <;> exact rowU_len _ _ _ _ _
            have HW := hid hWU
            have HPc := hid (fun (W : World) (hb : Below w1.heap.size w1 W) => show ∃ b1 o1, A = some ⟨b1, o1, none⟩ ∧ ∀ j, j < k → W.cell? ⟨b1, o1 + j, none⟩ = some (.int .i64 (vAt p j)) from by
              obtain ⟨b1, o1, e, hc⟩ := ((HI.out.below HB1.out).below hb).at' (by rw [HPL.out, HNn.out]; omega)
              exact ⟨b1, o1, e, fun j hj => hc j (by rw [HPL.out, HNn.out]; exact hj)⟩)
            clear hb2 hW hWU HCp
            go_wp2_with fail
            go_loopw [11] (fun i wr => ∃ (m : Nat), m ≤ k ∧ i = .int .i64 m ∧ Hid (WayT wr w1.heap.size k (.slice B k d) G C (RowsU t p k m 0) k) ∧ Hid (Below w1.heap.size w1 wr)) (fun i _ => k - (intOf i).toNat)
            case atStart => exact ⟨0, Nat.zero_le _, rfl, HW, HB2⟩
            case round =>
              obtain ⟨m, hm, rfl, HWm, HBm⟩ := hrel
              clear HW HB2
              by_cases hltm : m < k
              · go_wp2_with fail
                go_loopw [12] (fun i wr => ∃ (j : Nat), j ≤ k ∧ i = .int .i64 j ∧ Hid (WayT wr w1.heap.size k (.slice B k d) G C (RowsU t p k m j) k) ∧ Hid (Below w1.heap.size w1 wr)) (fun i _ => k - (intOf i).toNat)
                case atStart => exact ⟨0, Nat.zero_le _, rfl, HWm, HBm⟩
                case round =>
                  obtain ⟨j, hj, rfl, HWj, HBj⟩ := hrel
                  clear HWm HBm
                  by_cases hltj : j < k
                  · obtain ⟨ob, rfl, ho⟩ := HWj.out.outer (by omega)
                    have g1 := ho m hltm
                    obtain ⟨g2, g3⟩ := HWj.out.cell m j hltm hltj
                    have er : vAt (RowsU t p k m j m) j = tA t m j := by
                      simp only [RowsU, if_neg (Nat.lt_irrefl m), if_true]
                      rw [rowU_at _ _ _ _ _ _ hltj, if_neg (Nat.lt_irrefl j)]; omega
                    rw [er] at g2
                    obtain ⟨b1, o1, rfl, hpc⟩ := HPc.out wr HBj.out
                    have p1 := hpc m hltm
                    have p2 := hpc j hltj
                    have y0 := HSq.out.bd m j hltm hltj
                    have y1 := HPo.out.at_ m hltm
                    have y2 := HPo.out.at_ j hltj
                    have hGm := (HWj.out.lt (by omega) m hltm).1
                    have T1 := (HWj.out.set (by omega) m j hltm (tA t m j + (vAt p m + vAt p j)))
                    rw [RowsU.set t p k m j hltj] at T1
                    have HT1 := hid (T1.below (Below.refl _ _).drew)
                    have HB3 := hid ((HBj.out.setCell (p := ⟨G m, j, none⟩) hGm (.int .i64 (tA t m j + (vAt p m + vAt p j)))).drew)
                    clear T1 er ho hpc
                    obtain ⟨e1, he1⟩ : ∃ e1, tA t m j = e1 := ⟨_, rfl⟩
                    obtain ⟨e2, he2⟩ : ∃ e2, vAt p m = e2 := ⟨_, rfl⟩
                    obtain ⟨e3, he3⟩ : ∃ e3, vAt p j = e3 := ⟨_, rfl⟩
                    rw [he1] at g2 y0 HT1 HB3
                    rw [he2] at p1 y1 HT1 HB3
                    rw [he3] at p2 y2 HT1 HB3
                    clear he1 he2 he3
                    have q1 : (m : Int) < (k : Int) := by omega
                    have q2 : (j : Int) < (k : Int) := by omega
                    have s1 : IntKind.i64.wrap (e2 + e3) = e2 + e3 := IntWalk.i64_in _ (by omega)
                    have s2 : IntKind.i64.wrap (e1 + (e2 + e3)) = e1 + (e2 + e3) := IntWalk.i64_in _ (by omega)
                    go_wp2_with fail
                    go_region
                    go_wp2
                    go_roundw
                    case rel => exact ⟨j + 1, by omega, by go_num, HT1, HB3⟩
                    case measure => simp [intOf]; omega
                  · obtain rfl : j = k := by omega
                    have HX := hid (show WayT wr w1.heap.size j (.slice B j d) G C (RowsU t p j (m + 1) 0) j by rw [← RowsU.next]; exact HWj.out)
                    go_wp2
                    go_roundw
                    case rel => exact ⟨m + 1, by omega, by go_num, HX, HBj⟩
                    case measure => simp [intOf]; omega
              · obtain rfl : m = k := by omega
                have hTab := HWm.out.tab HCs.out (fun i hi => by simp only [RowsU, if_pos hi]; exact rowU_all HNn.out hi (HSq.out.rows i hi)) (by omega)
                have HTab := hid hTab
                have HBw := hid (HB1.out.trans (HBm.out.mono HB1.out.size))
                obtain ⟨b, off, rfl, hc⟩ := hTab.sq HCs.out (by omega)
                obtain ⟨b2, o2, c2, g1, _, g2⟩ := hc 0 (by omega)
                rw [Nat.add_zero] at g1
                rw [show ((0 : Nat) : Int) = 0 from rfl] at g2
                have HG1 := hid g1
                have HG2 := hid g2
                have h1 := g2 1 (by omega)
                have h2 := g2 2 (by omega)
                rw [show ((1 : Nat) : Int) = 1 from rfl] at h1
                rw [show ((2 : Nat) : Int) = 2 from rfl] at h2
                have HCb := hid (fun (i : Int) (h : 0 ≤ i ∧ i < m) => HCs.out.bdI 0 i ⟨by omega, by omega⟩ h)
                have hb1 := HCb.out 1 (by omega)
                have hb2 := HCb.out 2 (by omega)
                have HT0 := hid (TwoP.start (c := cntT t p) h33)
                have HGr := hid (fun (W : World) (h : TabAt W (some ⟨b, off, none⟩) (cntT t p)) => rGrown_any (some ⟨b, off, none⟩) (cntT t p) d m 1 W h HCs.out (by omega))
                have q1 : (1 : Int) < (m : Int) := by omega
                have q2 : (2 : Int) < (m : Int) := by omega
                have q0 : (0 : Int) < (m : Int) := by omega
                generalize wr = wo at *
                clear HWm HBm hTab hc g2
                generalize tA (cntT t p) 0 1 = e1 at *
                generalize tA (cntT t p) 0 2 = e2 at *
                have s1 : IntKind.i64.wrap (e1 + e2) = e1 + e2 := IntWalk.i64_in _ (by omega)
                go_wp2_with fail
                go_quiet (fail)
                clear g1 h1 h2 s1
                go_wp2_with fail
                go_loopw [13, 14] (fun v i wr => ∃ (x : Nat) (two : Int) (q : Nat), 1 ≤ x ∧ x ≤ m ∧ i = .int .i64 x ∧ v = .int .i64 two ∧ Hid (TwoP (cntT t p) m x 1 two) ∧ Hid (wr = wo.drewN q)) (fun _ i _ => m - (intOf i).toNat)
                case atStart => exact ⟨1, e1 + e2, nq, Nat.le_refl _, by omega, rfl, rfl, HT0, rfl⟩
                case round =>
                  obtain ⟨x, two, q, hx1, hxm, rfl, rfl, HTw, HWq⟩ := hrel
                  clear HT0
                  by_cases hltx : x < m
                  · go_wp2_with fail
                    go_loopw [13, 15] (fun v i wr => ∃ (y : Nat) (two : Int) (q : Nat), 1 ≤ y ∧ y ≤ x ∧ i = .int .i64 y ∧ v = .int .i64 two ∧ Hid (TwoP (cntT t p) m x y two) ∧ Hid (wr = wo.drewN q)) (fun _ i _ => x - (intOf i).toNat)
                    case atStart => exact ⟨1, two, q, Nat.le_refl _, by omega, rfl, rfl, HTw, HWq⟩
                    case round =>
                      obtain ⟨y, two, q, hy1, hyx, rfl, rfl, HTy, HWy⟩ := hrel
                      clear HTw HWq
                      have htb := HTy.out.bd HCs.out
                      by_cases hlty : y < x
                      · have HS := hid (HTy.out.step hltx hy1 hlty)
                        have g1 : wr.cell? ⟨b, off, none⟩ = some (.slice (some ⟨b2, o2, none⟩) m c2) := by rw [HWy.out]; exact HG1.out
                        have g2 : wr.cell? ⟨b2, o2 + x, none⟩ = some (.int .i64 (tA (cntT t p) 0 x)) := by rw [HWy.out]; exact HG2.out x hltx
                        have g3 : wr.cell? ⟨b2, o2 + y, none⟩ = some (.int .i64 (tA (cntT t p) 0 y)) := by rw [HWy.out]; exact HG2.out y (by omega)
                        have z1 := HCb.out x (by omega)
                        have z2 := HCb.out y (by omega)
                        obtain ⟨u1, hu1⟩ : ∃ u1, tA (cntT t p) 0 x = u1 := ⟨_, rfl⟩
                        obtain ⟨u2, hu2⟩ : ∃ u2, tA (cntT t p) 0 y = u2 := ⟨_, rfl⟩
                        rw [hu1] at g2 z1 HS
                        rw [hu2] at g3 z2 HS
                        clear hu1 hu2
                        have q3 : (x : Int) < (m : Int) := by omega
                        have q4 : (y : Int) < (m : Int) := by omega
                        have q5 : (y : Int) < (x : Int) := by omega
                        have s1 : IntKind.i64.wrap (u1 + u2) = u1 + u2 := IntWalk.i64_in _ (by omega)
                        go_wp2_with fail
                        go_region
                        all_goals
                          go_wp2
                          go_roundw
                          case rel => exact ⟨y + 1, min two (u1 + u2), q + 1, by omega, by omega, by go_num, by first | rfl | (congr 1; omega), HS, by rw [HWy.out]; rfl⟩
                          case measure => simp [intOf]; omega
                      · obtain rfl : y = x := by omega
                        have HS := hid HTy.out.row
                        go_wp2
                        go_roundw
                        case rel => exact ⟨y + 1, two, q, by omega, by omega, by go_num, rfl, HS, HWy⟩
                        case measure => simp [intOf]; omega
                  · obtain rfl : x = m := by omega
                    have HTT := hid HTw.out.two
                    have htb := HTw.out.bd HCs.out
                    have hbd : Below wo.heap.size wo wr := by rw [HWq.out]; exact below_drewN (Below.refl _ _) _
                    have HC := hid (HGr.out wr (HTab.out.below hbd))
                    have HBd := hid (HBw.out.trans (hbd.mono HBw.out.size))
                    clear HTw hbd HWq
                    go_wp2_with fail
                    refine HC.out.mono ?_
                    rintro e w5 ⟨hb5, mm, rfl, hM, hm1, hm2⟩
                    rw [plL_one x (by omega)] at hM
                    have HM := hid hM
                    have HB5 := hid (HBd.out.trans (hb5.mono HBd.out.size))
                    clear hM hb5 HC
                    go_wp2
                    go_ret2
                    exact ⟨HB5.out, .inr ⟨HZ.out, mm + two - 2 * sk, rfl, ⟨mm, two, by rw [HNn.out]; exact HM.out, by rw [HNn.out]; exact HTT.out, by rw [HSu.out]⟩⟩⟩
      · have hne2 : ((p.length : Int) != (t.length : Int)) = true := by simp; omega
        have hn0 : (3 : Int) ≤ (t.length : Int) := by omega
        have HN := hid (HE.out (fun h => hpt h.2.1))
        clear HE HO h3 hpt h3'
        go_enter Try.func33, Try.ntmps33
        go_wp2_with fail
        refine HV.out.mono ?_
        rintro e w1 ⟨hb1, rfl⟩
        have HB1 := hid hb1
        clear hb1
        go_wp2
        all_goals first
          | (go_ret2; exact ⟨HB1.out, .inl ⟨by rw [HN.out]; decide, by rw [HN.out]; rfl⟩⟩)
          | (exfalso; simp_all; done)
  · have HN := hid (ptE_val (p := p) hv)
    have hne : (vaV t == 0) = false := by simp; exact hv
    have HVV := hid hv
    clear h hi
    generalize vaV t = e0 at *
    go_enter Try.func33, Try.ntmps33
    go_wp2_with fail
    refine HV.out.mono ?_
    rintro e w1 ⟨hb1, rfl⟩
    have HB1 := hid hb1
    clear hb1
    go_wp2
    go_ret2
    exact ⟨HB1.out, .inl ⟨by rw [HN.out]; exact HVV.out, by rw [HN.out]; rfl⟩⟩
end Go.Proofs.Ytbffdpcogfmomaa
