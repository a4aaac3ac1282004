/- The document's Cheapest: chapter 3. -/
import Derived.Test.YtkboeldafppicaaMChe
import Derived.Test.YtkboeldafppicaaMRefU
import Derived.BigRegion
set_option linter.unusedVariables false
set_option linter.unusedSimpArgs false
namespace Go.Proofs.Ytkboeldafppicaa
open Go.RowKit

/-- The mark for 'no word' of the document. -/
def nnR : Int := 1099511627776
set_option maxRecDepth 100000 in
set_option maxHeartbeats 8000000 in
theorem rCheapest_any (L : Int) (nc ac : Nat) (Na Aa : Option Addr) (rows : List (List Int)) (accs : List Bool) (n : Int) (P : Option Addr) (ps : List Int) (cP : Nat) (w : World) (h : MachAt w Na rows Aa accs) (hP : Ints w P ps) :
    Calls Try.prog 59 #[machV L Na rows.length nc Aa accs.length ac, .int .i64 n, .slice P ps.length cP] w fun e w' => Below w.heap.size w w' ∧ ChAns w' (chL L rows accs n ps) (chV L rows accs n ps) (chOk L rows accs n ps) (ptE L rows accs n ps) e := by
  have hn := h.nlen
  have hal := h.alen
  have hpn := hP.len
  have hA : Below w.heap.size w (w.alloc (amachO L Na rows.length nc Aa accs.length ac)) := (Below.refl _ _).alloc (Nat.le_refl _) _
  have HA := hid hA
  have HH := hid h
  have HPp := hid hP
  have HK := hid (show chOk L rows accs n ps = (decide (ptE L rows accs n ps = 0) && decide (chT 401 L.toNat rows accs ps n.toNat 0 < 401)) from rfl)
  have HNo := hid (fun hh => chOk_no (L := L) (rows := rows) (accs := accs) (n := n) (ps := ps) hh)
  have HYes := hid (fun hh => chOk_yes (L := L) (rows := rows) (accs := accs) (n := n) (ps := ps) hh)
  have HO := hid (ptE_ok (L := L) (rows := rows) (accs := accs) (n := n) (ps := ps))
  have HC := hid (rScored_any L nc ac Na Aa rows accs n P ps cP _ (h.below hA) (hP.below hA))
  clear h hP
  have c0 : (w.alloc (amachO L Na rows.length nc Aa accs.length ac)).cell? ⟨w.heap.size, 0, none⟩ = some (.int .i64 L) := by go_simp
  have c1 : (w.alloc (amachO L Na rows.length nc Aa accs.length ac)).cell? ⟨w.heap.size, 1, none⟩ = some (.slice Na rows.length nc) := by go_simp
  have c2 : (w.alloc (amachO L Na rows.length nc Aa accs.length ac)).cell? ⟨w.heap.size, 2, none⟩ = some (.slice Aa accs.length ac) := by go_simp
  unfold machV at *
  go_enter Try.func59, Try.ntmps59
  go_wp2_with fail
  refine HC.out.mono ?_
  rintro e w1 ⟨hb1, rfl⟩
  have d0 := (hb1.cell (cell_lt c0)).trans c0
  have d1 := (hb1.cell (cell_lt c1)).trans c1
  have d2 := (hb1.cell (cell_lt c2)).trans c2
  have HB1 := hid (HA.out.trans (hb1.mono HA.out.size))
  clear hb1 c0 c1 c2 hA HC HA
  generalize hv0 : ptE L rows accs n ps = v at *
  have HV0 := hid hv0
  clear hv0
  by_cases hv : v = 0
  · subst hv
    obtain ⟨hlE, hpsl, hps⟩ := HO.out rfl
    obtain ⟨hV, ⟨m, rfl, hm⟩, l, rfl⟩ := lenE_ok hlE
    obtain ⟨hg, h64⟩ := vE_ok hV
    have hacc := hg.acc
    have HG := hid hg
    have HPL := hid (show ps.length = l by omega)
    have HPS := hid hps
    have HKz := hid (show chOk l rows accs m ps = decide (chT 401 l rows accs ps m 0 < 401) by rw [HK.out]; simp)
    have HYes := hid (show chOk l rows accs m ps = true → chL l rows accs m ps = cW l (mN rows) (mA accs) (pN ps) 401 m 0 ∧ chV l rows accs m ps = chT 401 l rows accs ps m 0 from HYes.out)
    rw [hacc] at d2
    have hpos := hg.pos
    have hL1 : (0 : Int) < (l : Int) := by have := hg.lo; omega
    have hL6 := hg.hi
    have HRel := hid (fun k (hk : k ≤ m) s => cT_rel l (mN rows) (mA accs) (pN ps) 401 nnR (pN_ok hps HPL.out) 20 (by omega) (by unfold nnR; omega) k (by omega) s)
    have HWr := hid (fun k (hk : k ≤ m) s => cW_rel l (mN rows) (mA accs) (pN ps) 401 nnR (pN_ok hps HPL.out) 20 (by omega) (by unfold nnR; omega) k (by omega) s)
    have HFb := hid (fun k j => chT_bd (N := nnR) (by unfold nnR; omega) (rows := rows) (accs := accs) hps HPL.out k j)
    have HMb := hid (fun k s c (hc : c ≤ l) => (show 0 ≤ minN nnR (fun c => pN ps c + chT nnR l rows accs ps k (mN rows s c)) c ∧ minN nnR (fun c => pN ps c + chT nnR l rows accs ps k (mN rows s c)) c ≤ nnR from by
      refine ⟨?_, (minN_le _ _ _).1⟩
      rcases minN_at nnR (fun c => pN ps c + chT nnR l rows accs ps k (mN rows s c)) c with e | ⟨d, hd, e⟩
      · rw [e]; unfold nnR; omega
      · have h1 := pN_ok hps HPL.out d (by omega)
        have h2 := HFb.out k (mN rows s d)
        omega))
    obtain ⟨i0, hinf, hz0, hz1, hz2⟩ := info_parts row_info
    have hmk := make_intsM rows.length (by omega)
    obtain ⟨ba, oa, hAa, hca⟩ : ∃ b o, Aa = some ⟨b, o, none⟩ ∧ ∀ s, s < rows.length → w1.cell? ⟨b, o + s, none⟩ = some (.bool (mA accs s)) := by
      rcases (HH.out.below HB1.out).aat with e | ⟨b, o, ha, hc⟩
      · have h9 := hacc; rw [e] at h9; rw [← h9] at hpos; simp at hpos
      · exact ⟨b, o, ha, fun s hs => hc s (by rw [hacc]; exact hs)⟩
    obtain ⟨bP, oP, hPa, hpc⟩ : ∃ bP oP, P = some ⟨bP, oP, none⟩ ∧ ∀ c, c < l → w1.cell? ⟨bP, oP + c, none⟩ = some (.int .i64 (pN ps c)) := by
      rcases (HPp.out.below HB1.out).at_ with e | ⟨b, o, hA, hc⟩
      · have := HPL.out; rw [e] at this; simp at this; omega
      · exact ⟨b, o, hA, fun c hc2 => hc c (by rw [HPL.out]; exact hc2)⟩
    subst hAa
    subst hPa
    have HCa := hid hca
    have HPc := hid hpc
    have HTz := hid (show TabO w1 w1.heap.size rows.length (.slice none 0 0) (chT nnR l rows accs ps) (fun _ => 0) 0 from ⟨⟨[], ⟨rfl, .inl ⟨rfl, rfl⟩⟩, fun i hi => by omega⟩, fun i hi => by omega, fun i hi => by omega⟩)
    have hlen1 := cell_lt d0
    clear hV hg hacc HO hlE hpsl hps hca hpc
    go_wp2
    go_loopg [11, 12] (m + 1) (fun gk v i wr => ∃ (k : Nat) (G : Nat → Nat), k + gk = m + 1 ∧ i = .int .i64 (k : Int) ∧ Hid (TabO wr w1.heap.size rows.length v (chT nnR l rows accs ps) G k) ∧ Hid (Below w1.heap.size w1 wr))
    case atStart => exact ⟨0, fun _ => 0, by omega, rfl, HTz.out, Below.refl _ _⟩
    case round =>
      clear HTz
      obtain ⟨k, G, hk, rfl, HTb, HB⟩ := hrel
      have c0 := (HB.out.cell (cell_lt d0)).trans d0
      have c1 := (HB.out.cell (cell_lt d1)).trans d1
      have c2 := (HB.out.cell (cell_lt d2)).trans d2
      obtain ⟨wo, hwo⟩ : ∃ x, x = wr := ⟨_, rfl⟩
      subst hwo
      by_cases hkn : k < m + 1
      · obtain ⟨go', hgo⟩ : ∃ f, gk = f + 1 := ⟨gk - 1, by omega⟩
        subst hgo
        have hki : (k : Int) ≤ (m : Int) := by omega
        have HI5 := hid (show IBox (wo.alloc (.cells (List.replicate rows.length (Value.int .i64 0)).toArray 3)) wo.heap.size (vnum rows.length (chT nnR l rows accs ps k) 0) by
          have := IBox.made wo rows.length
          rw [show vnum rows.length (chT nnR l rows accs ps k) 0 = List.replicate rows.length 0 from rowPad_nil _]
          exact this)
        have hA5 : Below wo.heap.size wo (wo.alloc (.cells (List.replicate rows.length (Value.int .i64 0)).toArray 3)) := (Below.refl _ _).alloc (Nat.le_refl _) _
        have HA5 := hid hA5
        have hsz := cell_lt c0
        go_wp2
        clear hA5
        go_loopg [14] rows.length (fun g2 i wr => ∃ (j : Nat), j + g2 = rows.length ∧ i = .int .i64 (j : Int) ∧ Hid (IBox wr wo.heap.size (vnum rows.length (chT nnR l rows accs ps k) j)) ∧ Hid (Below wo.heap.size wo wr))
        case atStart => exact ⟨0, by omega, rfl, HI5.out, HA5.out⟩
        case round =>
          clear HI5 HA5
          obtain ⟨j, hm2, rfl, HIb, HBr⟩ := hrel
          have e0 := (HBr.out.cell (cell_lt c0)).trans c0
          have e1 := (HBr.out.cell (cell_lt c1)).trans c1
          have e2 := (HBr.out.cell (cell_lt c2)).trans c2
          have hgrl := HIb.out.lt
          by_cases hlt : j < rows.length
          · obtain ⟨g2', hg2⟩ : ∃ f, gk = f + 1 := ⟨gk - 1, by omega⟩
            subst hg2
            have hm0 : (j : Int) < (rows.length : Int) := by omega
            have hvl : (vnum rows.length (chT nnR l rows accs ps k) j).length = rows.length := vnum_len _ _ _ (by omega)
            have s1 := HIb.out.cell j (by rw [hvl]; exact hlt)
            have s2 := HIb.out.frozen j
            have hv0 : (vnum rows.length (chT nnR l rows accs ps k) j)[j]?.getD 0 = 0 := by
              unfold vnum rowPad
              rw [List.getElem?_append_right (by simp)]
              simp [List.getElem?_replicate, show 0 < rows.length - j by omega]
            rw [hv0] at s1
            have HVs := hid (vnum_succ rows.length (chT nnR l rows accs ps k) j hlt)
            have a0 := (HBr.out.cell (cell_lt ((HB.out.cell (cell_lt (HCa.out j hlt))).trans (HCa.out j hlt)))).trans ((HB.out.cell (cell_lt (HCa.out j hlt))).trans (HCa.out j hlt))
            have HB2 := hid (HBr.out.setCell (p := ⟨wo.heap.size, j, none⟩) (Nat.le_refl _) (.int .i64 1099511627776))
            have y0 := (World.cell?_setCell_other (w := wr) (a := ⟨wo.heap.size, j, none⟩) (b := ⟨w.heap.size, 0, none⟩) (.int .i64 1099511627776) (by simp only [ne_eq, Addr.mk.injEq]; omega)).trans e0
            have HI2' := hid (HIb.out.set j 1099511627776)
            clear hvl hv0
            by_cases hk0 : k = 0
            · subst hk0
              have HT0 := hid (show chT nnR l rows accs ps 0 j = if mA accs j = true then 0 else nnR from rfl)
              have hs0 := vnum_set0 rows.length (chT nnR l rows accs ps 0) j hlt
              have hoa := hid hs0
              clear hs0
              cases hb : mA accs j with
              | false =>
                rw [hb] at a0
                have HTv := hid (show chT nnR l rows accs ps 0 j = 1099511627776 by rw [HT0.out, hb]; rfl)
                have HI2 := hid (show IBox (wr.setCell ⟨wo.heap.size, j, none⟩ (.int .i64 1099511627776)) wo.heap.size (vnum rows.length (chT nnR l rows accs ps 0) (j + 1)) by rw [← HVs.out, HTv.out]; exact HI2'.out)
                clear hb HT0 HI2'
                go_wp2
                go_loopw [15] (fun i wx => i = .int .i64 0 ∧ Hid (wx = wr.setCell ⟨wo.heap.size, j, none⟩ (.int .i64 1099511627776)) ∧ wx.cell? ⟨w.heap.size, 0, none⟩ = some (.int .i64 (l : Int))) (fun _ _ => 0)
                case atStart => exact ⟨rfl, rfl, y0⟩
                case round =>
                  obtain ⟨rfl, HW, y0⟩ := hrel
                  have HI3 := hid (show IBox wr wo.heap.size (vnum rows.length (chT nnR l rows accs ps 0) (j + 1)) by rw [HW.out]; exact HI2.out)
                  have HB3 := hid (show Below wo.heap.size wo wr by rw [HW.out]; exact HB2.out)
                  go_wp2
                  go_roundg g2'
                  case rel => exact ⟨j + 1, by omega, by go_num, HI3.out, HB3.out⟩
                  all_goals omega
              | true =>
                rw [hb] at a0
                have HTv := hid (show chT nnR l rows accs ps 0 j = 0 by rw [HT0.out, hb]; rfl)
                have HI2 := hid (show IBox wr wo.heap.size (vnum rows.length (chT nnR l rows accs ps 0) (j + 1)) by rw [← HVs.out, HTv.out, hoa.out]; exact HIb.out)
                clear hb HT0 HI2' HB2 y0
                go_wp2
                go_loopw [15] (fun i wx => i = .int .i64 0 ∧ Hid (wx = wr) ∧ wx.cell? ⟨w.heap.size, 0, none⟩ = some (.int .i64 (l : Int))) (fun _ _ => 0)
                case atStart => exact ⟨rfl, rfl, e0⟩
                case round =>
                  obtain ⟨rfl, HW, y0⟩ := hrel
                  have HI3 := hid (show IBox wr wo.heap.size (vnum rows.length (chT nnR l rows accs ps 0) (j + 1)) by rw [HW.out]; exact HI2.out)
                  have HB3 := hid (show Below wo.heap.size wo wr by rw [HW.out]; exact HBr.out)
                  go_wp2
                  go_roundg g2'
                  case rel => exact ⟨j + 1, by omega, by go_num, HI3.out, HB3.out⟩
                  all_goals omega
            · obtain ⟨k, rfl⟩ : ∃ q, k = q + 1 := ⟨k - 1, by omega⟩
              have hkp : (0 : Int) < (k : Int) + 1 := by omega
              have HSt := hid (show chT nnR l rows accs ps (k + 1) j = minN nnR (fun c => pN ps c + chT nnR l rows accs ps k (mN rows j c)) l from rfl)
              have HI2 := hid (show IBox (wr.setCell ⟨wo.heap.size, j, none⟩ (.int .i64 1099511627776)) wo.heap.size ((vnum rows.length (chT nnR l rows accs ps (k + 1)) j).set j (minN nnR (fun c => pN ps c + chT nnR l rows accs ps k (mN rows j c)) 0)) from HI2'.out)
              clear a0 HI2'
              go_wp2
              go_loopw [15] (fun i wx => ∃ (c : Nat), c ≤ l ∧ i = .int .i64 (c : Int) ∧ Hid (IBox wx wo.heap.size ((vnum rows.length (chT nnR l rows accs ps (k + 1)) j).set j (minN nnR (fun c => pN ps c + chT nnR l rows accs ps k (mN rows j c)) c))) ∧ Hid (Below wo.heap.size wo wx)) (fun i _ => l - (intOf i).toNat)
              case atStart => exact ⟨0, Nat.zero_le _, rfl, HI2.out, HB2.out⟩
              case round =>
                clear HI2 e0 e1 e2 s1 s2 HIb HBr HB2 y0
                obtain ⟨c, hc, rfl, HIb, HBr⟩ := hrel
                have e0 := (HBr.out.cell (cell_lt c0)).trans c0
                have e1 := (HBr.out.cell (cell_lt c1)).trans c1
                by_cases hcL : c < l
                · have hci : (c : Int) < (l : Int) := by omega
                  obtain ⟨gO, cO, hvO, hcO⟩ := HTb.out.form (Nat.succ_pos k)
                  have t1 := (HBr.out.cell (cell_lt (hcO k (Nat.lt_succ_self k)))).trans (hcO k (Nat.lt_succ_self k))
                  obtain ⟨he1, he2⟩ := HG.out.ent j c hlt hcL
                  have hrow := HG.out.row j hlt
                  have t2' := HTb.out.get k (mN rows j c) (Nat.lt_succ_self k) he1
                  have t2 := (HBr.out.cell (cell_lt t2')).trans t2'
                  have t6 := (HBr.out.cell (cell_lt ((HB.out.cell (cell_lt (HPc.out c hcL))).trans (HPc.out c hcL)))).trans ((HB.out.cell (cell_lt (HPc.out c hcL))).trans (HPc.out c hcL))
                  obtain ⟨b2, o2, g2, o3, kk, hNa, g3, g4, _⟩ := (((HH.out.below HB1.out).below HB.out).below HBr.out).row j c hlt (by rw [hrow]; exact hcL)
                  rw [he2] at g4
                  rw [hrow] at g3
                  have hvl : (vnum rows.length (chT nnR l rows accs ps (k + 1)) j).length = rows.length := vnum_len _ _ _ (by omega)
                  have s1 := HIb.out.cell j (by rw [List.length_set, hvl]; exact hlt)
                  rw [List.getElem?_set_self (by rw [hvl]; exact hlt), Option.getD_some] at s1
                  have s2 := HIb.out.frozen j
                  have hz := HMb.out k j c hc
                  have hy := HFb.out k (mN rows j c)
                  have hx := pN_ok HPS.out HPL.out c hcL
                  have HSs := hid (show minN nnR (fun c => pN ps c + chT nnR l rows accs ps k (mN rows j c)) (c + 1) = min (minN nnR (fun c => pN ps c + chT nnR l rows accs ps k (mN rows j c)) c) (pN ps c + chT nnR l rows accs ps k (mN rows j c)) from rfl)
                  have HI4 := hid (fun wx (hx : IBox wx wo.heap.size ((vnum rows.length (chT nnR l rows accs ps (k + 1)) j).set j (minN nnR (fun c => pN ps c + chT nnR l rows accs ps k (mN rows j c)) c))) => hx.set j (minN nnR (fun c => pN ps c + chT nnR l rows accs ps k (mN rows j c)) (c + 1)))
                  simp only [List.set_set] at HI4
                  have HIb2 := hid (HI4.out wr HIb.out)
                  rw [HSs.out] at HIb2
                  have hgrl2 := HIb.out.lt
                  clear hrow he2 hvl t2' hcO HI4 HIb HSt
                  subst hvO
                  generalize minN nnR (fun c => pN ps c + chT nnR l rows accs ps k (mN rows j c)) c = z at *
                  generalize chT nnR l rows accs ps k (mN rows j c) = y at *
                  generalize pN ps c = p at *
                  generalize mN rows j c = q at *
                  have hkw : IntKind.i64.wrap ((k : Int) + 1 - 1) = (k : Int) := by rw [IntKind.wrap_i64]; omega
                  have hkw2 : IntKind.i64.wrap (k : Int) = (k : Int) := by rw [IntKind.wrap_i64]; omega
                  unfold nnR at hz hy
                  have hzw : IntKind.i64.wrap (p + y) = p + y := by rw [IntKind.wrap_i64]; omega
                  have hzw2 : wrap64 (p + y) = p + y := by unfold wrap64; omega
                  have hk1 : (k : Int) < (k : Int) + 1 := by omega
                  have hm1 : (0 : Int) ≤ (j : Int) := by omega
                  have hc1 : (0 : Int) ≤ (c : Int) := by omega
                  have hj1 : (0 : Int) ≤ (q : Int) := by omega
                  have hj2 : (q : Int) < (rows.length : Int) := by omega
                  have hkk1 : (0 : Int) ≤ (k : Int) := by omega
                  have hcp : (c : Int) < (ps.length : Int) := by have := HPL.out; omega
                  have HSc := HSs
                  subst hNa
                  by_cases hmm : p + y < z
                  · have x2 : ¬ z ≤ p + y := by omega
                    have x3 : ¬ z < p + y := by omega
                    have x4 : p + y ≤ z := by omega
                    have HSv := hid (show min z (p + y) = p + y by omega)
                    rw [HSv.out] at HIb2
                    go_wp2_with fail
                    go_region
                    have HIb3 := hid (show IBox ((wr.setCell ⟨wo.heap.size, j, none⟩ (.int .i64 (p + y))).drew) wo.heap.size ((vnum rows.length (chT nnR l rows accs ps (k + 1)) j).set j (p + y)) from HIb2.out)
                    have HBr3 := hid (show Below wo.heap.size wo ((wr.setCell ⟨wo.heap.size, j, none⟩ (.int .i64 (p + y))).drew) from (HBr.out.setCell (p := ⟨wo.heap.size, j, none⟩) (Nat.le_refl _) _).drew)
                    clear HIb2 t1 t2 t6 g3 g4 s1 s2 HBr e0 e1
                    generalize (wr.setCell ⟨wo.heap.size, j, none⟩ (.int .i64 (p + y))).drew = wd at *
                    go_wp2
                    go_roundw
                    case rel =>
                      repeat apply Exists.intro
                      refine ⟨?_, rfl⟩
                      exact ⟨c + 1, by omega, by go_num, by rw [HSc.out, HSv.out]; exact HIb3.out, HBr3.out⟩
                    case measure => simp [intOf]; omega
                  · have HSv := hid (show min z (p + y) = z by omega)
                    rw [HSv.out] at HIb2
                    have x2 : z ≤ p + y := by omega
                    by_cases hme : z = p + y
                    · have x3 : ¬ z < p + y := by omega
                      have x4 : p + y ≤ z := by omega
                      subst hme
                      go_wp2_with fail
                      go_region
                      have HIb3 := hid (show IBox ((wr.setCell ⟨wo.heap.size, j, none⟩ (.int .i64 (p + y))).drew) wo.heap.size ((vnum rows.length (chT nnR l rows accs ps (k + 1)) j).set j (p + y)) from HIb2.out)
                      have HBr3 := hid (show Below wo.heap.size wo ((wr.setCell ⟨wo.heap.size, j, none⟩ (.int .i64 (p + y))).drew) from (HBr.out.setCell (p := ⟨wo.heap.size, j, none⟩) (Nat.le_refl _) _).drew)
                      clear HIb2 t1 t2 t6 g3 g4 s1 s2 HBr e0 e1
                      generalize (wr.setCell ⟨wo.heap.size, j, none⟩ (.int .i64 (p + y))).drew = wd at *
                      go_wp2
                      go_roundw
                      case rel =>
                        repeat apply Exists.intro
                        refine ⟨?_, rfl⟩
                        exact ⟨c + 1, by omega, by go_num, by rw [HSc.out, HSv.out]; exact HIb3.out, HBr3.out⟩
                      case measure => simp [intOf]; omega
                    · have x3 : z < p + y := by omega
                      have x4 : ¬ p + y ≤ z := by omega
                      go_wp2_with fail
                      go_region
                      have HIb3 := hid (show IBox ((wr.setCell ⟨wo.heap.size, j, none⟩ (.int .i64 z)).drew) wo.heap.size ((vnum rows.length (chT nnR l rows accs ps (k + 1)) j).set j z) from HIb2.out)
                      have HBr3 := hid (show Below wo.heap.size wo ((wr.setCell ⟨wo.heap.size, j, none⟩ (.int .i64 z)).drew) from (HBr.out.setCell (p := ⟨wo.heap.size, j, none⟩) (Nat.le_refl _) _).drew)
                      clear HIb2 t1 t2 t6 g3 g4 s1 s2 HBr e0 e1
                      generalize (wr.setCell ⟨wo.heap.size, j, none⟩ (.int .i64 z)).drew = wd at *
                      go_wp2
                      go_roundw
                      case rel =>
                        repeat apply Exists.intro
                        refine ⟨?_, rfl⟩
                        exact ⟨c + 1, by omega, by go_num, by rw [HSc.out, HSv.out]; exact HIb3.out, HBr3.out⟩
                      case measure => simp [intOf]; omega
                · obtain rfl : c = l := by omega
                  have HI3 := hid (show IBox wr wo.heap.size (vnum rows.length (chT nnR c rows accs ps (k + 1)) (j + 1)) by rw [← HVs.out, HSt.out]; exact HIb.out)
                  go_wp2
                  go_roundg g2'
                  case rel => exact ⟨j + 1, by omega, by go_num, HI3.out, HBr.out⟩
                  all_goals omega
          · obtain rfl : j = rows.length := by omega
            have hfull : vnum rows.length (chT nnR l rows accs ps k) rows.length = (List.range rows.length).map (chT nnR l rows accs ps k) := by
              unfold vnum; exact rowPad_full _ _ (by simp)
            have HI9 := HIb.out
            rw [hfull] at HI9
            have HI9 := hid HI9
            have HTr := hid (HTb.out.below HBr.out)
            have HBz := hid (HB.out.trans (HBr.out.mono HB.out.size))
            have hA9 : Below wr.heap.size wr (wr.alloc (.cells #[.slice (some ⟨wo.heap.size, 0, none⟩) rows.length rows.length] 26)) := (Below.refl _ _).alloc (Nat.le_refl _) _
            have HT9 := HTr.out.below hA9
            obtain ⟨vals, hr1, hr2⟩ := HT9.out
            have HR2 := hid hr2
            have HT9 := hid HT9
            have HA9 := hid hA9
            have hbs : w1.heap.size ≤ wr.heap.size := HBz.out.size
            have hbso : w1.heap.size ≤ wo.heap.size := HB.out.size
            have hvl : vals.length = k := by have := hr1.1; simpa using this
            have HVl := hid hvl
            clear hfull hr2 hA9 hvl
            have hlo := hr1.lt
            have HLo := hid hlo
            clear hlo e0 e1 e2
            go_wp2_with (at_builtin; refine wpList_append_lies _ rfl _ _ 22 rfl w1.heap.size 26 i0 (.slice none 0 0) 1 24 Try.underlying22 hinf hz0 hz1 hz2 rfl (by decide) u11 k vals rfl hr1 ⟨wr.heap.size, 0, none⟩ 1 1 [.slice (some ⟨wo.heap.size, 0, none⟩) rows.length rows.length] rfl rfl (World.news_of_block (cs := #[.slice (some ⟨wo.heap.size, 0, none⟩) rows.length rows.length]) (t := 26) (fr := (0, 0)) (heap_alloc_new wr _)) (by simp [Value.oneCell']) (by decide) (by unfold maxLen; omega) (by omega) (by simp; omega) _ rfl ?_)
            intro gV cV w9 hown9 hgr9 hat9 hlt9
            have hNo : u11.ownBlock ≠ some wo.heap.size := by
              obtain ⟨vs, g1, _⟩ := HTb.out.out
              exact fun hh => by have := (g1.lt _ hh).2; omega
            have HT2 := hid (TabO.push (wa := wr.alloc (.cells #[.slice (some ⟨wo.heap.size, 0, none⟩) rows.length rows.length] 26)) HT9.out (HI9.out.below HA9.out) (by omega) hNo vals HR2.out HVl.out hown9 hgr9 (by have := lies_loc (n := k + 1) (c := cV) hat9; simpa using this))
            have HB9 := hid ((HBz.out.alloc HBz.out.size (.cells #[.slice (some ⟨wo.heap.size, 0, none⟩) rows.length rows.length] 26)).grown hgr9 (by simp; omega) (fun q hq => (HLo.out q hq).1))
            clear hr1 hown9 hgr9 hat9 hlt9 hNo
            go_wp2
            go_roundg go'
            case rel => exact ⟨k + 1, _, by omega, by go_num, HT2.out, HB9.out⟩
            all_goals omega
      · obtain rfl : k = m + 1 := by omega
        have HT := hid HTb.out
        obtain ⟨gT, capT, hvT, hcT⟩ := HT.out.form (Nat.succ_pos m)
        subst hvT
        have HcT := hid hcT
        have t1 := hcT m (by omega)
        have t2 := HT.out.get m 0 (by omega) hpos
        have hmi : (m : Int) < (m : Int) + 1 := by omega
        have hfb0 := HFb.out m 0
        have hrl := HRel.out m (Nat.le_refl _) 0
        have HW0 := hid (HWr.out m (Nat.le_refl _) 0)
        have hkf : ¬ (m : Int) + 1 ≤ (m : Int) := by omega
        clear hcT HTb
        by_cases hge : nnR ≤ chT nnR l rows accs ps m 0
        · have HKt := hid (show chOk l rows accs m ps = false by
            rw [HKz.out]
            unfold RelC at hrl
            have hh : ¬ chT 401 l rows accs ps m 0 < 401 := by unfold chT at hge ⊢; unfold nnR at hge hrl; omega
            simpa using hh)
          obtain ⟨hW1, hW2⟩ := HNo.out HKt.out
          have HWl := hid hW1
          have HWv := hid hW2
          have HBz := hid (HB1.out.trans (HB.out.mono HB1.out.size))
          have hge2 : (1099511627776 : Int) ≤ chT nnR l rows accs ps m 0 := hge
          clear hW1 hW2 hrl hfb0 hge
          generalize chT nnR l rows accs ps m 0 = x0 at *
          go_wp2
          refine bodyPost_ret (v := .tuple #[.slice none 0 0, .int .i64 0, .bool false, .int .i64 0]) (by simp [results, Try.results59, go_sem]) rfl ?_
          exact ⟨HBz.out, none, 0, by rw [HWl.out, HWv.out, HKt.out, HV0.out]; rfl, by rw [HWl.out]; exact ints_nil _ _⟩
        · have hx4 : chT 401 l rows accs ps m 0 = chT nnR l rows accs ps m 0 ∧ chT 401 l rows accs ps m 0 < 401 := by
            unfold RelC at hrl
            unfold chT at hge ⊢
            unfold nnR at hge hrl
            unfold nnR
            omega
          have HKt := hid (show chOk l rows accs m ps = true by rw [HKz.out]; simpa using hx4.2)
          obtain ⟨hW1, hW2⟩ := HYes.out HKt.out
          have HWl := hid (show chL l rows accs m ps = cW l (mN rows) (mA accs) (pN ps) nnR m 0 by rw [hW1]; exact HW0.out hx4.2)
          have HWv := hid (hW2.trans hx4.1)
          have HLt := hid (show chT nnR l rows accs ps m 0 < nnR by omega)
          have HUs := hid (cW_spec l (mN rows) (mA accs) (pN ps) nnR (fun c hc => (pN_ok HPS.out HPL.out c hc).1) m 0 HLt.out)
          have HBz := hid (HB1.out.trans (HB.out.mono HB1.out.size))
          have hge' : ¬ (1099511627776 : Int) ≤ chT nnR l rows accs ps m 0 := hge
          have d1 := (HB.out.cell (cell_lt d1)).trans d1
          obtain ⟨j0, hjnf, hy0, hy1, hy2⟩ := info_parts int_info
          clear hW1 hW2 hrl hfb0 hx4 hge HRel HWr HW0 HKz HNo HYes HK
          have HX0 := hid (show ∃ x, x = chT nnR l rows accs ps m 0 from ⟨_, rfl⟩)
          generalize hx0 : chT nnR l rows accs ps m 0 = x0 at *
          have HX := hid hx0
          clear hx0
          go_wp2
          go_loopg [16, 17, 18] m (fun gk v st i wr => ∃ (s : Nat) (D : List Int), i = .int .i64 (gk : Int) ∧ st = .int .i64 (s : Int) ∧ D.length + gk = m ∧ s < rows.length ∧ Hid (chT nnR l rows accs ps gk s < nnR) ∧ Hid (cW l (mN rows) (mA accs) (pN ps) nnR m 0 = D ++ cW l (mN rows) (mA accs) (pN ps) nnR gk s) ∧ Hid (Own wr wo.heap.size v D) ∧ Hid (Below wo.heap.size wo wr))
          case atStart => exact ⟨0, [], rfl, rfl, by simp, hpos, by rw [HX.out]; exact HLt.out, rfl, Own.nil _ _, Below.refl _ _⟩
          case round =>
            obtain ⟨s, D, rfl, rfl, hD, hs, HZ, HU, HOw, HBq⟩ := hrel
            by_cases hlt : 0 < gk
            · obtain ⟨g', hg'⟩ : ∃ f, gk = f + 1 := ⟨gk - 1, by omega⟩
              subst hg'
              obtain ⟨e1, e2, e3⟩ := cT_step l (mN rows) (mA accs) (pN ps) nnR g' s HZ.out
              have HUn := hid (show cW l (mN rows) (mA accs) (pN ps) nnR (g' + 1) s = (cdig l (fun c => pN ps c + cT l (mN rows) (mA accs) (pN ps) nnR g' (mN rows s c)) (cT l (mN rows) (mA accs) (pN ps) nnR (g' + 1) s) : Int) :: cW l (mN rows) (mA accs) (pN ps) nnR g' (mN rows s (cdig l (fun c => pN ps c + cT l (mN rows) (mA accs) (pN ps) nnR g' (mN rows s c)) (cT l (mN rows) (mA accs) (pN ps) nnR (g' + 1) s))) from rfl)
              generalize cdig l (fun c => pN ps c + cT l (mN rows) (mA accs) (pN ps) nnR g' (mN rows s c)) (cT l (mN rows) (mA accs) (pN ps) nnR (g' + 1) s) = d at *
              have HE2 := hid (show pN ps d + chT nnR l rows accs ps g' (mN rows s d) = chT nnR l rows accs ps (g' + 1) s from e2)
              have HE3 := hid (show ∀ c, c < d → chT nnR l rows accs ps (g' + 1) s < pN ps c + chT nnR l rows accs ps g' (mN rows s c) from e3)
              have hgi : (0 : Int) < (g' : Int) + 1 := by omega
              clear e2 e3
              go_wp2
              go_loopg [19] d (fun g2 ai wr => ∃ (a : Nat), a + g2 = d ∧ ai = .int .i64 (a : Int) ∧ Hid (Own wr wo.heap.size u16 D) ∧ Hid (Below wo.heap.size wo wr))
              case atStart => exact ⟨0, by omega, rfl, HOw.out, HBq.out⟩
              case round =>
                clear HOw HBq
                obtain ⟨a, ha, rfl, HOw, HBr⟩ := hrel
                have hb := HBr.out
                have c1 := (hb.cell (cell_lt d1)).trans d1
                have t1' := HcT.out g' (by omega)
                have t1 := (hb.cell (cell_lt t1')).trans t1'
                have t4' := HcT.out (g' + 1) (by omega)
                have t4 := (hb.cell (cell_lt t4')).trans t4'
                have hal2 : a < l := by omega
                obtain ⟨he1, he2⟩ := HG.out.ent s a hs hal2
                have hrow := HG.out.row s hs
                have t2' := HT.out.get g' (mN rows s a) (by omega) he1
                have t2 := (hb.cell (cell_lt t2')).trans t2'
                have t5' := HT.out.get (g' + 1) s (by omega) hs
                have t5 := (hb.cell (cell_lt t5')).trans t5'
                have t6' := HPc.out a hal2
                have t6 := (hb.cell (cell_lt ((HB.out.cell (cell_lt t6')).trans t6'))).trans ((HB.out.cell (cell_lt t6')).trans t6')
                have hy := HFb.out g' (mN rows s a)
                have hzb := HFb.out (g' + 1) s
                have hpa := pN_ok HPS.out HPL.out a hal2
                have hmon := hid (fun (hh : a < d) => HE3.out a hh)
                have hlast := hid (fun (hh : a = d) => (show pN ps a + chT nnR l rows accs ps g' (mN rows s a) = chT nnR l rows accs ps (g' + 1) s by rw [hh]; exact HE2.out))
                have HUj := hid (fun (hh : a = d) => (show cW l (mN rows) (mA accs) (pN ps) nnR (g' + 1) s = (a : Int) :: cW l (mN rows) (mA accs) (pN ps) nnR g' (mN rows s a) by rw [hh]; exact HUn.out))
                have HZj := hid (fun (hh : a = d) => (show chT nnR l rows accs ps g' (mN rows s a) < nnR by have := hlast.out hh; have := HZ.out; omega))
                obtain ⟨b2', o2, gB, o3, kk, hNa, g30, g40, _⟩ := (HH.out.below HBz.out).row s a hs (by rw [hrow]; exact hal2)
                rw [he2] at g40
                rw [hrow] at g30
                have g3 := (hb.cell (cell_lt g30)).trans g30
                have g4 := (hb.cell (cell_lt g40)).trans g40
                clear hrow he2 t1' t4' t2' t5' t6'
                subst hNa
                generalize hyy : chT nnR l rows accs ps g' (mN rows s a) = y at *
                generalize hzz : chT nnR l rows accs ps (g' + 1) s = z at *
                generalize hpp : pN ps a = p at *
                generalize hjj : mN rows s a = j at *
                have HYY := hid hyy
                have hl6 := HG.out.hi
                unfold nnR at hy hzb
                have hg0 : (0 : Int) ≤ (g' : Int) := by omega
                have hg1 : (g' : Int) < (m : Int) + 1 := by omega
                have hg2 : (g' : Int) + 1 < (m : Int) + 1 := by omega
                have hg3 : (0 : Int) ≤ (g' : Int) + 1 := by omega
                have hj0 : (0 : Int) ≤ (j : Int) := by omega
                have hj1 : (j : Int) < (rows.length : Int) := by omega
                have hs0 : (0 : Int) ≤ (s : Int) := by omega
                have hs1 : (s : Int) < (rows.length : Int) := by omega
                have ha0 : (0 : Int) ≤ (a : Int) := by omega
                have ha1 : (a : Int) < (l : Int) := by omega
                have ha2 : (a : Int) < (ps.length : Int) := by have := HPL.out; omega
                have hgw : IntKind.i64.wrap ((g' : Int) + 1 - 1) = (g' : Int) := by rw [IntKind.wrap_i64]; omega
                have hgw2 : IntKind.i64.wrap (g' : Int) = (g' : Int) := by rw [IntKind.wrap_i64]; omega
                have hpw1 : IntKind.i64.wrap (p + y) = p + y := by rw [IntKind.wrap_i64]; omega
                have hpw2 : wrap64 (p + y) = p + y := by unfold wrap64; omega
                clear hyy hjj hzz hpp
                by_cases had : a < d
                · obtain ⟨g2', hg2⟩ : ∃ f, gk = f + 1 := ⟨gk - 1, by omega⟩
                  subst hg2
                  have hmm := hmon.out had
                  have hne : (p + y != z) = true := by rw [bne_iff_ne]; omega
                  clear hmon hlast HUj HZj hmm
                  go_wp2_with fail
                  go_quiet (fail)
                  generalize hwd : wr.drewN nq = wd
                  have HOd := hid (show Own wd wo.heap.size u16 D by rw [← hwd]; exact HOw.out.below (below_drewN (Below.refl _ _) nq))
                  have HBd := hid (show Below wo.heap.size wo wd by rw [← hwd]; exact below_drewN HBr.out nq)
                  clear hwd c1 t1 t2 t4 t5 t6 g3 g4 hne
                  go_wp2
                  go_roundg g2'
                  case rel => exact ⟨a + 1, by omega, by go_num, HOd.out, HBd.out⟩
                  all_goals omega
                · have had' : a = d := by omega
                  have hll := hlast.out had'
                  have hUU := HUj.out had'
                  have HZ2 := hid (HZj.out had')
                  have hne : (p + y != z) = false := by rw [bne_eq_false_iff_eq]; exact hll
                  have HU2 := hid (show cW l (mN rows) (mA accs) (pN ps) nnR m 0 = (D ++ [(a : Int)]) ++ cW l (mN rows) (mA accs) (pN ps) nnR g' j by rw [HU.out, hUU, List.append_assoc]; rfl)
                  clear hmon hlast HUj had' hUU HZj hll
                  go_wp2_with fail
                  go_quiet (fail)
                  generalize hwd : wr.drewN nq = wd
                  have HOd := hid (show Own wd wo.heap.size u16 D by rw [← hwd]; exact HOw.out.below (below_drewN (Below.refl _ _) nq))
                  have HBd := hid (show Below wo.heap.size wo wd by rw [← hwd]; exact below_drewN HBr.out nq)
                  clear hwd c1 t1 t2 t4 t5 t6 g3 g4 hne
                  have hown := HOd.out
                  unfold Own at hown
                  have hbs : wo.heap.size ≤ wd.heap.size := HBd.out.size
                  have hDl : D.length ≤ 20 := by omega
                  go_wp2_with (at_builtin; refine wpList_append_own _ rfl _ _ 26 rfl wo.heap.size 3 j0 (.int .i64 0) 1 8 Try.underlying26 hjnf hy0 hy1 hy2 rfl (by decide) u16 D.length (D.map (Value.int .i64)) rfl (hown.alloc _) ⟨wd.heap.size, 0, none⟩ 1 1 [.int .i64 (a : Int)] rfl rfl ?c1 ?c2 ?c3 ?c4 ?c5 ?_)
                  case c1 => exact cell_one_new _ _ _
                  case c2 => simp [Value.oneCell']
                  case c3 => unfold maxLen; omega
                  case c4 => omega
                  case c5 => simp; omega
                  intro v9 w9 hown9 hgr9 _
                  have HO9 := hid (show Own w9 wo.heap.size v9 (D ++ [(a : Int)]) by
                    unfold Own; rw [List.length_append, List.map_append]; exact hown9)
                  have hlo := hown.lt
                  have HB9 := hid ((HBd.out.alloc hbs (.cells #[.int .i64 (a : Int)] 3)).grown hgr9 (by simp; omega) (fun q hq => (hlo q hq).1))
                  have z1 := (HB9.out.cell (cell_lt d1)).trans d1
                  have z4 := (HB9.out.cell (cell_lt g30)).trans g30
                  have z5 := (HB9.out.cell (cell_lt g40)).trans g40
                  have hz4 : Hid (chT nnR l rows accs ps g' j < nnR) := by rw [HYY.out]; exact HZ2
                  clear hown hown9 hgr9 hlo hbs hpw1 hpw2
                  go_wp2
                  go_roundg g'
                  case rel => exact ⟨j, D ++ [(a : Int)], by go_num, rfl, by simp; omega, he1, hz4.out, HU2.out, HO9.out, HB9.out⟩
                  all_goals omega
            · have hke : gk = 0 := by omega
              subst hke
              have HU9 := hid (show cW l (mN rows) (mA accs) (pN ps) nnR m 0 = D by rw [HU.out, cW, List.append_nil])
              have HB9 := hid (HBz.out.trans (HBq.out.mono HBz.out.size))
              obtain ⟨A9, c9, hv9, hI9⟩ := HOw.out.ints (by omega) (fun x hx => by
                have hall := HUs.out.2
                rw [HU9.out] at hall
                have := hall x hx
                have := HG.out.hi
                omega)
              have HI9 := hid hI9
              have t1 := (HBq.out.cell (cell_lt t1)).trans t1
              have t2 := (HBq.out.cell (cell_lt t2)).trans t2
              have hm0 : (0 : Int) ≤ (m : Int) := by omega
              clear hI9
              subst hv9
              go_wp2_with fail
              go_quiet (fail)
              go_wp2
              refine bodyPost_ret (v := .tuple #[.slice A9 D.length c9, .int .i64 x0, .bool true, .int .i64 0]) (by simp [results, Try.results59, go_sem]) rfl ?_
              exact ⟨below_drewN HB9.out _, A9, c9, by rw [HWl.out, HWv.out, HKt.out, HV0.out, HU9.out], by rw [HWl.out, HU9.out]; exact HI9.out.below (below_drewN (Below.refl _ _) _)⟩
  · have HK := hid (show chOk L rows accs n ps = false by rw [HK.out]; simp [hv])
    obtain ⟨hW1, hW2⟩ := HNo.out HK.out
    have HWl := hid hW1
    have HWv := hid hW2
    have hv' : (v != 0) = true := by simpa using hv
    clear hv HO hW1 hW2
    go_wp2
    refine bodyPost_ret (v := .tuple #[.slice none 0 0, .int .i64 0, .bool false, .int .i64 v]) (by simp [results, Try.results59, go_sem]) rfl ?_
    exact ⟨HB1.out, none, 0, by rw [HWl.out, HWv.out, HK.out, HV0.out]; rfl, by rw [HWl.out]; exact ints_nil _ _⟩
end Go.Proofs.Ytkboeldafppicaa
