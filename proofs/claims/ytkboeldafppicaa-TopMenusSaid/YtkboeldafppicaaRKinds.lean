/- The document's kinds of states: chapter 3. -/
import Derived.Test.YtkboeldafppicaaAlikeP
import Derived.Test.YtkboeldafppicaaKindsM
import Derived.Test.YtkboeldafppicaaMAcc
import Derived.Test.YtkboeldafppicaaIBox
import Derived.Deep.LoopGhost
set_option linter.unusedVariables false
set_option linter.unusedSimpArgs false
namespace Go.Proofs.Ytkboeldafppicaa
open Go.RowKit Go.Maps

set_option maxRecDepth 100000 in
set_option maxHeartbeats 4000000 in
theorem rKinds_any (L nc ac : Nat) (Na Aa : Option Addr) (rows : List (List Int)) (accs : List Bool) (w : World) (h : MachAt w Na rows Aa accs) (hg : GoodM L rows accs) (hn5 : rows.length ≤ 5000) :
    Calls Try.prog 141 #[machV L Na rows.length nc Aa rows.length ac] w fun e w' => Below w.heap.size w w' ∧ ∃ K c k, e = .returned (.slice K rows.length c) ∧ Ints w' K (knL L (mN rows) (mA accs) (k + 1) rows.length) ∧ (repsk L (mN rows) (mA accs) (k + 1) rows.length).length ≤ (repsk L (mN rows) (mA accs) k rows.length).length := by
  have hpos := hg.pos
  have hL := hg.hi
  have HH := hid h
  have HG := hid hg
  have hB1 : Below w.heap.size w (w.alloc (.cells #[.int .i64 (L : Int), .slice Na rows.length nc, .slice Aa rows.length ac] 25)) := (Below.refl _ _).alloc (Nat.le_refl _) _
  have hmk := make_intsM rows.length (by omega)
  have hmm := @run_makeMap Try.prog
  clear h hg
  unfold machV
  go_enter Try.func141, Try.ntmps141
  go_wp2
  have m0 : ((w.alloc (.cells #[.int .i64 (L : Int), .slice Na rows.length nc, .slice Aa rows.length ac] 25)).alloc (.cells (List.replicate rows.length (.int .i64 0)).toArray 3)).cell? ⟨w.heap.size, 0, none⟩ = some (.int .i64 (L : Int)) := by go_simp
  have m1 : ((w.alloc (.cells #[.int .i64 (L : Int), .slice Na rows.length nc, .slice Aa rows.length ac] 25)).alloc (.cells (List.replicate rows.length (.int .i64 0)).toArray 3)).cell? ⟨w.heap.size, 1, none⟩ = some (.slice Na rows.length nc) := by go_simp
  have m2 : ((w.alloc (.cells #[.int .i64 (L : Int), .slice Na rows.length nc, .slice Aa rows.length ac] 25)).alloc (.cells (List.replicate rows.length (.int .i64 0)).toArray 3)).cell? ⟨w.heap.size, 2, none⟩ = some (.slice Aa rows.length ac) := by go_simp
  have HI0 := hid (IBox.made (w.alloc (.cells #[.int .i64 (L : Int), .slice Na rows.length nc, .slice Aa rows.length ac] 25)) rows.length)
  have HB2 := hid (hB1.alloc (by simp) (.cells (List.replicate rows.length (.int .i64 0)).toArray 3))
  simp only [World.size_alloc] at HI0
  clear hB1
  go_loopg [3, 4] (rows.length - 1) (fun gk v i wr => ∃ (k : Nat) (K : Option Addr) (c : Nat), v = .slice K rows.length c ∧ i = .int .i64 ((repsk L (mN rows) (mA accs) k rows.length).length : Int) ∧ gk + (repsk L (mN rows) (mA accs) k rows.length).length = rows.length ∧ Hid (Ints wr K (knL L (mN rows) (mA accs) k rows.length)) ∧ Hid (Below w.heap.size w wr) ∧ w.heap.size < wr.heap.size ∧ wr.cell? ⟨w.heap.size, 0, none⟩ = some (.int .i64 (L : Int)) ∧ wr.cell? ⟨w.heap.size, 1, none⟩ = some (.slice Na rows.length nc) ∧ wr.cell? ⟨w.heap.size, 2, none⟩ = some (.slice Aa rows.length ac))
  case atStart =>
    have hr0 := repsk_zero (L := L) (next := mN rows) (acc := mA accs) rows.length hpos
    exact ⟨0, some ⟨w.heap.size + 1, 0, none⟩, rows.length, rfl, by rw [hr0]; rfl, by rw [hr0]; omega, by rw [knL_zero]; exact HI0.out.ints (by simp; omega) (fun x hx => by have := List.eq_of_mem_replicate hx; omega), HB2.out, by simp; omega, m0, m1, m2⟩
  case round =>
    clear m0 m1 m2 HI0 HB2
    obtain ⟨k, K, c, rfl, rfl, hgk, HK, HB, hsz, c0, c1, c2⟩ := hrel
    obtain ⟨wo, hwo⟩ : ∃ x, x = wr := ⟨_, rfl⟩
    subst hwo
    obtain ⟨go, hgo⟩ : ∃ x, x = gk := ⟨_, rfl⟩
    subst hgo
    have HMw := hid (HH.out.below HB.out)
    have HKc : Hid (∀ j, j < rows.length → ∃ b o, K = some ⟨b, o, none⟩ ∧ wo.cell? ⟨b, o + j, none⟩ = some (.int .i64 ((knL L (mN rows) (mA accs) k rows.length)[j]?.getD 0))) := hid (fun j hj => by
      rcases HK.out.at_ with e | ⟨b, o, hA, hc⟩
      · have h9 := knL_len (L := L) (nx := mN rows) (ac := mA accs) k rows.length; rw [e] at h9; simp at h9; omega
      · exact ⟨b, o, hA, hc j (by rw [knL_len]; exact hj)⟩)
    have HBm := hid (((Below.refl wo.heap.size wo).alloc (Nat.le_refl _) (.map #[] 0)).alloc (by simp) (.cells (List.replicate rows.length (.int .i64 0)).toArray 3))
    have HN := hid ((NumMap.made wo 157).alloc (.cells (List.replicate rows.length (.int .i64 0)).toArray 3))
    have HF := hid (IBox.made (wo.alloc (.map #[] 0)) rows.length)
    simp only [World.size_alloc] at HF
    go_wp2
    go_loopg [7] rows.length (fun g2 i wq => ∃ (m : Nat), m + g2 = rows.length ∧ i = .int .i64 (m : Int) ∧ Hid (IBox wq (wo.heap.size + 1) (rowPad rows.length (knL L (mN rows) (mA accs) (k + 1) m))) ∧ Hid (NumMap wq 157 wo.heap.size (mlist2 L (mN rows) (mA accs) k rows.length m)) ∧ Hid (Below wo.heap.size wo wq))
    case atStart => exact ⟨0, by omega, rfl, by rw [show knL L (mN rows) (mA accs) (k + 1) 0 = [] from rfl, rowPad_nil]; exact HF.out, HN.out, HBm.out⟩
    case round =>
      clear HBm HN HF
      obtain ⟨m, hm, rfl, HF, HN, HBq⟩ := hrel
      have hmle : m ≤ rows.length := by omega
      have hszq := HF.out.lt
      have e0 := (HBq.out.cell (cell_lt c0)).trans c0
      have e1 := (HBq.out.cell (cell_lt c1)).trans c1
      have e2 := (HBq.out.cell (cell_lt c2)).trans c2
      by_cases hlt : m < rows.length
      · obtain ⟨g2', rfl⟩ : ∃ f, gk = f + 1 := ⟨gk - 1, by omega⟩
        have hm0 : (0 : Int) ≤ (m : Int) := by omega
        have hMr := HMw.out.below HBq.out
        rcases hMr.aat with e | ⟨ba, oa, hAa, hca⟩
        · have h9 := HG.out.acc; rw [e] at h9; rw [← h9] at hpos; simp at hpos
        have a0 := hca m (by rw [HG.out.acc]; exact hlt)
        rw [show accs[m]?.getD false = mA accs m from rfl] at a0
        obtain rfl := hAa
        clear hca hMr
        have HVs0 := hid (show mA accs m = mA accs m from rfl)
        generalize hav : mA accs m = av at *
        have HAv := hid hav
        have HVB := hid (show VBox (wr.alloc (.cells #[.bool av, .int .i64 0, .int .i64 0, .int .i64 0, .int .i64 0, .int .i64 0, .int .i64 0] 157)) 157 wr.heap.size av (vnum 6 (fun c => (knL L (mN rows) (mA accs) k rows.length)[mN rows m c]?.getD 0) 0) from VBox.made wr 157 av (vnum 6 (fun c => (knL L (mN rows) (mA accs) k rows.length)[mN rows m c]?.getD 0) 0))
        have HA8 := hid (show Below wr.heap.size wr (wr.alloc (.cells #[.bool av, .int .i64 0, .int .i64 0, .int .i64 0, .int .i64 0, .int .i64 0, .int .i64 0] 157)) from (Below.refl _ _).alloc (Nat.le_refl _) _)
        clear hav
        obtain ⟨wi, hwi⟩ : ∃ x, x = wr := ⟨_, rfl⟩
        subst hwi
        go_wp2
        go_loopw [9] (fun i wx => ∃ (c : Nat), c ≤ L ∧ i = .int .i64 (c : Int) ∧ Hid (VBox wx 157 wi.heap.size av (vnum 6 (fun c => (knL L (mN rows) (mA accs) k rows.length)[mN rows m c]?.getD 0) c)) ∧ Hid (Below wi.heap.size wi wx)) (fun i _ => L - (intOf i).toNat)
        case atStart => exact ⟨0, Nat.zero_le _, rfl, HVB.out, HA8.out⟩
        case round =>
          clear HVB HA8
          obtain ⟨c9, hc9, rfl, HVB, HA8⟩ := hrel
          by_cases hcL : c9 < L
          · have hci : (c9 : Int) < (L : Int) := by omega
            have g0 := (HA8.out.cell (cell_lt e0)).trans e0
            have g1 := (HA8.out.cell (cell_lt e1)).trans e1
            obtain ⟨he1, he2⟩ := HG.out.ent m c9 hlt hcL
            have hrow := HG.out.row m hlt
            obtain ⟨b2, o2, gB, o3, kk, hNa, g3', g4', _⟩ := (HMw.out.below HBq.out).row m c9 hlt (by rw [hrow]; exact hcL)
            rw [he2] at g4'
            rw [hrow] at g3'
            have g3 := (HA8.out.cell (cell_lt g3')).trans g3'
            have g4 := (HA8.out.cell (cell_lt g4')).trans g4'
            obtain ⟨bK, oK, hKa, g5'⟩ := HKc.out (mN rows m c9) he1
            have g5'' := (HBq.out.cell (cell_lt g5')).trans g5'
            have g5 := (HA8.out.cell (cell_lt g5'')).trans g5''
            have hvl : (vnum 6 (fun c => (knL L (mN rows) (mA accs) k rows.length)[mN rows m c]?.getD 0) c9).length = 6 := vnum_len _ _ _ (by omega)
            have v1 := HVB.out.cell c9 (by omega)
            rw [Nat.add_comm c9 1] at v1
            have f1 := HVB.out.frozen (1 + c9)
            have HV2 := hid (HVB.out.set c9 ((knL L (mN rows) (mA accs) k rows.length)[mN rows m c9]?.getD 0))
            have HSv := hid (vnum_succ 6 (fun c => (knL L (mN rows) (mA accs) k rows.length)[mN rows m c]?.getD 0) c9 (by omega))
            rw [HSv.out] at HV2
            have HB8 := hid ((HA8.out.setCell (p := ⟨wi.heap.size, 1 + c9, none⟩) (Nat.le_refl _) (.int .i64 ((knL L (mN rows) (mA accs) k rows.length)[mN rows m c9]?.getD 0))))
            have hc06 : c9 < 6 := by omega
            have hgl := HVB.out.lt
            clear hvl hrow he2 g3' g4' g5' g5'' HSv
            subst hNa hKa
            generalize (knL L (mN rows) (mA accs) k rows.length)[mN rows m c9]?.getD 0 = x at *
            generalize mN rows m c9 = j at *
            go_wp2
            go_roundw
            case rel => exact ⟨c9 + 1, by omega, by go_num, HV2.out, HB8.out⟩
            case measure => simp [intOf]; omega
          · have hcE : c9 = L := by omega
            have hcf : ¬ (c9 : Int) < (L : Int) := by omega
            have HVw := HVB.out
            rw [hcE] at HVw
            clear hcE HVB
            have g0 := (HA8.out.cell (cell_lt e0)).trans e0
            have hvl : (vnum 6 (fun c => (knL L (mN rows) (mA accs) k rows.length)[mN rows m c]?.getD 0) L).length = 6 := vnum_len _ _ _ hL
            obtain ⟨vs, hvs⟩ : ∃ vs, vnum 6 (fun c => (knL L (mN rows) (mA accs) k rows.length)[mN rows m c]?.getD 0) L = vs := ⟨_, rfl⟩
            have hV0 : VV (vw2 L (mN rows) (mA accs) k rows.length m) = VV (av, vs) := by unfold vw2; rw [HAv.out, hvs]
            rw [hvs] at HVw hvl
            have HVw := hid HVw
            clear hvs
            obtain ⟨x0, x1, x2, x3, x4, x5, rfl⟩ : ∃ x0 x1 x2 x3 x4 x5, vs = [x0, x1, x2, x3, x4, x5] := by
              match vs, hvl with
              | [x0, x1, x2, x3, x4, x5], _ => exact ⟨x0, x1, x2, x3, x4, x5, rfl⟩
            have hV : VV (vw2 L (mN rows) (mA accs) k rows.length m) = .agg #[.bool av, .int .i64 x0, .int .i64 x1, .int .i64 x2, .int .i64 x3, .int .i64 x4, .int .i64 x5] := hV0
            have v0 := HVw.out.cell0
            have v1 : wr.cell? ⟨wi.heap.size, 1, none⟩ = some (.int .i64 x0) := HVw.out.cell 0 (by simp)
            have v2 : wr.cell? ⟨wi.heap.size, 2, none⟩ = some (.int .i64 x1) := HVw.out.cell 1 (by simp)
            have v3 : wr.cell? ⟨wi.heap.size, 3, none⟩ = some (.int .i64 x2) := HVw.out.cell 2 (by simp)
            have v4 : wr.cell? ⟨wi.heap.size, 4, none⟩ = some (.int .i64 x3) := HVw.out.cell 3 (by simp)
            have v5 : wr.cell? ⟨wi.heap.size, 5, none⟩ = some (.int .i64 x4) := HVw.out.cell 4 (by simp)
            have v6 : wr.cell? ⟨wi.heap.size, 6, none⟩ = some (.int .i64 x5) := HVw.out.cell 5 (by simp)
            have HE := hid (mlist2_mem (L := L) (k := k) (nx := mN rows) (ac := mA accs) HG.out.cl hlt m (Nat.le_refl _))
            obtain ⟨kl, hkey⟩ := vw2_key L (mN rows) (mA accs) k rows.length m hL (by omega)
            have HMo := hid (mlist2_succ_old (L := L) (n := rows.length) (k := k) (m := m) (nx := mN rows) (ac := mA accs))
            have HMn := hid (mlist2_succ_new (L := L) (n := rows.length) (k := k) (m := m) (nx := mN rows) (ac := mA accs))
            have HKn := hid (knN_new (L := L) (k := k) (m := m) (nx := mN rows) (ac := mA accs))
            rw [hV] at hkey HE HMn
            have hNlt := HN.out.lt
            have HN3 := HN.out.below HA8.out hNlt
            have HF3 := HF.out.below HA8.out
            have HB3 := HBq.out.trans (HA8.out.mono HBq.out.size)
            have HArS := hid (knL_succ (L := L) (nx := mN rows) (ac := mA accs) (k + 1) m)
            have HPs := hid (rowPad_set rows.length (knL L (mN rows) (mA accs) (k + 1) m) (knN L (mN rows) (mA accs) (k + 1) m : Int) (by rw [knL_len]; omega))
            rw [knL_len] at HPs
            have HPl := hid (rowPad_len rows.length (knL L (mN rows) (mA accs) (k + 1) m) (by rw [knL_len]; omega))
            have HFl := hid (fsk_le (L := L) (next := mN rows) (acc := mA accs) (k + 1) m)
            have hkn := knN_le (L := L) (nx := mN rows) (ac := mA accs) (k + 1) m
            clear hV hV0 hvl e0 e1 e2 a0
            by_cases hnew : fsk L (mN rows) (mA accs) (k + 1) m = m
            · have HMn := hid (HMn.out hnew)
              have HKn := hid (HKn.out hnew)
              have hno : ∀ cc, (Value.agg #[.bool av, .int .i64 x0, .int .i64 x1, .int .i64 x2, .int .i64 x3, .int .i64 x4, .int .i64 x5], cc) ∉ mlist2 L (mN rows) (mA accs) k rows.length m := fun cc hh => by
                have := (HE.out cc).1 hh; omega
              obtain ⟨v9, hrun1⟩ := HN3.lookNo law_row Try.underlying155 hkey hno
              have hln := fun ty => HN3.lenRun (t := 155) Try.underlying155 ty
              rw [mlist2_len, ← HKn.out] at hln
              obtain ⟨w4, hput, HN4, hgr4⟩ := HN3.store law_row Try.underlying155 hkey hno (by rw [mlist2_len]; have := repsk_len (L := L) (next := mN rows) (acc := mA accs) (k + 1) m; unfold maxLen; omega) (knN L (mN rows) (mA accs) (k + 1) m : Int) (by unfold I64; omega)
              have HF4 := HF3.keep (hgr4.block (wo.heap.size + 1) HF3.lt (by simp))
              have r1 := HF4.cell m (by rw [HPl.out]; exact hlt)
              have r2 := HF4.frozen m
              have HB4 := hid (HB3.grown hgr4 HB3.size (fun q hq => by cases hq; exact Nat.le_refl _))
              have HN5 := hid ((HN4.setCell ⟨wo.heap.size + 1, m, none⟩ (.int .i64 (knN L (mN rows) (mA accs) (k + 1) m : Int)) (by simp)))
              rw [← HMn.out] at HN5
              have HF5 := hid (HF4.set m (knN L (mN rows) (mA accs) (k + 1) m : Int))
              rw [HPs.out, ← HArS.out] at HF5
              clear HN3 HF3 HB3 HN4 HF4 hgr4 hkey hno
              generalize knN L (mN rows) (mA accs) (k + 1) m = y at *
              go_wp2
              go_roundg g2'
              case rel => exact ⟨m + 1, by omega, by go_num, HF5.out, HN5.out, HB4.out.setCell (p := ⟨wo.heap.size + 1, m, none⟩) (by simp) _⟩
              all_goals omega
            · have HMo := hid (HMo.out hnew)
              have hin := (HE.out (knN L (mN rows) (mA accs) (k + 1) m : Int)).2 ⟨by have := HFl.out; omega, rfl⟩
              obtain ⟨hrun1, hrun2⟩ := HN3.lookYes law_row Try.underlying155 hkey _ hin
              have r1 := HF3.cell m (by rw [HPl.out]; exact hlt)
              have r2 := HF3.frozen m
              have HB4 := hid HB3
              have HN5 := hid (HN3.setCell ⟨wo.heap.size + 1, m, none⟩ (.int .i64 (knN L (mN rows) (mA accs) (k + 1) m : Int)) (by simp))
              rw [← HMo.out] at HN5
              have HF5 := hid (HF3.set m (knN L (mN rows) (mA accs) (k + 1) m : Int))
              rw [HPs.out, ← HArS.out] at HF5
              clear HN3 HF3 HB3 hkey hin hnew
              generalize knN L (mN rows) (mA accs) (k + 1) m = y at *
              go_wp2
              go_roundg g2'
              case rel => exact ⟨m + 1, by omega, by go_num, HF5.out, HN5.out, HB4.out.setCell (p := ⟨wo.heap.size + 1, m, none⟩) (by simp) _⟩
              all_goals omega
      · obtain rfl : m = rows.length := by omega
        have hln := fun ty => HN.out.lenRun (t := 155) Try.underlying155 ty
        rw [mlist2_len] at hln
        have hle := repsk_len_le (L := L) (next := mN rows) (acc := mA accs) k rows.length
        have hpn := repsk_len (L := L) (next := mN rows) (acc := mA accs) (k + 1) rows.length
        have HF2 := HF.out
        rw [rowPad_full _ _ (knL_len _ _)] at HF2
        have HI2 := hid (HF2.ints (by rw [knL_len]; omega) (fun x hx => by
          unfold knL at hx
          obtain ⟨s, hs, rfl⟩ := List.mem_map.1 hx
          have := knN_le (L := L) (nx := mN rows) (ac := mA accs) (k + 1) s
          have := List.mem_range.1 hs
          omega))
        have HBz := hid (HB.out.trans (HBq.out.mono HB.out.size))
        have hszz : w.heap.size < wr.heap.size := by omega
        have HP := hid (show (repsk L (mN rows) (mA accs) (k + 1) rows.length).length = (repsk L (mN rows) (mA accs) (k + 1) rows.length).length from rfl)
        clear HF HN HF2 HMw HK HB HBq hm hmle c0 c1 c2
        generalize hp : (repsk L (mN rows) (mA accs) (k + 1) rows.length).length = p at *
        generalize hq : (repsk L (mN rows) (mA accs) k rows.length).length = q at *
        have HPp := hid hp
        have HQq := hid hq
        clear hp hq
        by_cases heq : p = q
        · subst heq
          go_wp2
          go_ret
          exact ⟨HBz.out, _, ⟨_, rfl⟩, k, HI2.out, by rw [HPp.out, HQq.out]; exact Nat.le_refl _⟩
        · have hb : ((p : Int) == (q : Int)) = false := by simp; omega
          obtain ⟨g', rfl⟩ : ∃ f, go = f + 1 := ⟨go - 1, by omega⟩
          go_wp2
          go_roundg (rows.length - p)
          case rel => exact ⟨k + 1, _, _, rfl, by rw [HPp.out], by rw [HPp.out]; omega, HI2.out, HBz.out, hszz, e0, e1, e2⟩
          all_goals omega
end Go.Proofs.Ytkboeldafppicaa
