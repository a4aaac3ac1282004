/- The first states from which the same words are accepted: alike of package menu. -/
import Derived.Test.YtkboeldafppicaaAlikeM
import Derived.Test.YtkboeldafppicaaIBox
import Derived.Deep.LoopGhost
set_option linter.unusedVariables false
set_option linter.unusedSimpArgs false
namespace Go.Proofs.Ytkboeldafppicaa
open Go.RowKit Go.Maps

theorem GoodM.cl {L : Nat} {rows : List (List Int)} {accs : List Bool} (h : GoodM L rows accs) : ∀ s c, s < rows.length → c < L → mN rows s c < rows.length := fun s c hs hc => (h.ent s c hs hc).1
theorem view_info : (Try.prog.info? 148).map (fun i => (i.zero, i.size, i.bytes)) = some (some (.agg #[.bool false, .int .i64 0, .int .i64 0, .int .i64 0, .int .i64 0, .int .i64 0, .int .i64 0]), 7, 56) := by kernel_rfl

set_option maxRecDepth 100000 in
set_option maxHeartbeats 4000000 in
theorem alike_any (L nc ac : Nat) (Na Aa : Option Addr) (rows : List (List Int)) (accs : List Bool) (w : World) (h : MachAt w Na rows Aa accs) (hg : GoodM L rows accs) (hn5 : rows.length ≤ 5000) :
    Calls Try.prog 122 #[machV L Na rows.length nc Aa rows.length ac] w fun e w' => Below w.heap.size w w' ∧ ∃ K c k, e = .returned (.tuple #[.slice K rows.length c, .int .i64 ((repsk L (mN rows) (mA accs) (k + 1) rows.length).length : Int)]) ∧ Ints w' K (arrL L (mN rows) (mA accs) (k + 1) rows.length) ∧ ((repsk L (mN rows) (mA accs) (k + 1) rows.length).length ≤ (repsk L (mN rows) (mA accs) k rows.length).length ∨ 64 < (repsk L (mN rows) (mA accs) (k + 1) rows.length).length) := by
  have hpos := hg.pos
  have hL := hg.hi
  have HH := hid h
  have HG := hid hg
  have hB1 : Below w.heap.size w (w.alloc (.cells #[.int .i64 (L : Int), .slice Na rows.length nc, .slice Aa rows.length ac] 73)) := (Below.refl _ _).alloc (Nat.le_refl _) _
  have hmk := make_intsM rows.length (by omega)
  have hmm := @run_makeMap Try.prog
  clear h hg
  unfold machV
  go_enter Try.func122, Try.ntmps122
  go_wp2
  have m0 : ((w.alloc (.cells #[.int .i64 (L : Int), .slice Na rows.length nc, .slice Aa rows.length ac] 73)).alloc (.cells (List.replicate rows.length (.int .i64 0)).toArray 3)).cell? ⟨w.heap.size, 0, none⟩ = some (.int .i64 (L : Int)) := by go_simp
  have m1 : ((w.alloc (.cells #[.int .i64 (L : Int), .slice Na rows.length nc, .slice Aa rows.length ac] 73)).alloc (.cells (List.replicate rows.length (.int .i64 0)).toArray 3)).cell? ⟨w.heap.size, 1, none⟩ = some (.slice Na rows.length nc) := by go_simp
  have m2 : ((w.alloc (.cells #[.int .i64 (L : Int), .slice Na rows.length nc, .slice Aa rows.length ac] 73)).alloc (.cells (List.replicate rows.length (.int .i64 0)).toArray 3)).cell? ⟨w.heap.size, 2, none⟩ = some (.slice Aa rows.length ac) := by go_simp
  have HI0 := hid (IBox.made (w.alloc (.cells #[.int .i64 (L : Int), .slice Na rows.length nc, .slice Aa rows.length ac] 73)) rows.length)
  have HB2 := hid (hB1.alloc (by simp) (.cells (List.replicate rows.length (.int .i64 0)).toArray 3))
  simp only [World.size_alloc] at HI0
  clear hB1
  go_loopg [4, 5] (rows.length - 1) (fun gk v i wr => ∃ (k : Nat) (K : Option Addr) (c : Nat), v = .slice K rows.length c ∧ i = .int .i64 ((repsk L (mN rows) (mA accs) k rows.length).length : Int) ∧ gk + (repsk L (mN rows) (mA accs) k rows.length).length = rows.length ∧ Hid (Ints wr K (arrL L (mN rows) (mA accs) k rows.length)) ∧ Hid (Below w.heap.size w wr) ∧ w.heap.size < wr.heap.size ∧ wr.cell? ⟨w.heap.size, 0, none⟩ = some (.int .i64 (L : Int)) ∧ wr.cell? ⟨w.heap.size, 1, none⟩ = some (.slice Na rows.length nc) ∧ wr.cell? ⟨w.heap.size, 2, none⟩ = some (.slice Aa rows.length ac))
  case atStart =>
    have hr0 := repsk_zero (L := L) (next := mN rows) (acc := mA accs) rows.length hpos
    exact ⟨0, some ⟨w.heap.size + 1, 0, none⟩, rows.length, rfl, by rw [hr0]; rfl, by rw [hr0]; omega, by rw [arrL_zero]; exact HI0.out.ints (by simp; omega) (fun x hx => by have := List.eq_of_mem_replicate hx; omega), HB2.out, by simp; omega, m0, m1, m2⟩
  case round =>
    clear m0 m1 m2 HI0 HB2
    obtain ⟨k, K, c, rfl, rfl, hgk, HK, HB, hsz, c0, c1, c2⟩ := hrel
    obtain ⟨wo, hwo⟩ : ∃ x, x = wr := ⟨_, rfl⟩
    subst hwo
    obtain ⟨go, hgo⟩ : ∃ x, x = gk := ⟨_, rfl⟩
    subst hgo
    have HMw := hid (HH.out.below HB.out)
    have HBm := hid (((Below.refl wo.heap.size wo).alloc (Nat.le_refl _) (.cells (List.replicate rows.length (.int .i64 0)).toArray 3)).alloc (by simp) (.map #[] 0))
    have HN := hid (NumMap.made (wo.alloc (.cells (List.replicate rows.length (.int .i64 0)).toArray 3)) 148)
    have HF := hid ((IBox.made wo rows.length).below ((Below.refl _ _).alloc (Nat.le_refl _) (.map #[] 0)))
    simp only [World.size_alloc] at HN
    go_wp2
    go_loopg [24] rows.length (fun g2 i wq => ∃ (m : Nat), m + g2 = rows.length ∧ i = .int .i64 (m : Int) ∧ Hid (IBox wq wo.heap.size (rowPad rows.length (arrL L (mN rows) (mA accs) (k + 1) m))) ∧ Hid (NumMap wq 148 (wo.heap.size + 1) (mlist L (mN rows) (mA accs) k rows.length m)) ∧ Hid (Below wo.heap.size wo wq))
    case atStart => exact ⟨0, by omega, rfl, by rw [show arrL L (mN rows) (mA accs) (k + 1) 0 = [] from rfl, rowPad_nil]; exact HF.out, HN.out, HBm.out⟩
    case round =>
      clear HBm HN HF
      obtain ⟨m, hm, rfl, HF, HN, HBq⟩ := hrel
      have hmle : m ≤ rows.length := by omega
      have hszq := HN.out.lt
      have e0 := (HBq.out.cell (cell_lt c0)).trans c0
      have e1 := (HBq.out.cell (cell_lt c1)).trans c1
      have e2 := (HBq.out.cell (cell_lt c2)).trans c2
      by_cases hlt : m < rows.length
      · obtain ⟨g2', rfl⟩ : ∃ f, gk = f + 1 := ⟨gk - 1, by omega⟩
        have hm0 : (0 : Int) ≤ (m : Int) := by omega
        go_wp2_with fail
        refine (viewOf_any L m nc ac c Na Aa K rows accs (arrL L (mN rows) (mA accs) k rows.length) wr (HMw.out.below HBq.out) HG.out hlt (HK.out.below HBq.out) (arrL_len _ _ _ _ _)).mono ?_
        rintro e wv ⟨hbv, rfl⟩
        have HE := hid (mlist_mem (L := L) (k := k) (nx := mN rows) (ac := mA accs) HG.out.cl hlt m (Nat.le_refl _))
        obtain ⟨kl, hkey⟩ := vw_key L (mN rows) (mA accs) k rows.length m hL (by omega)
        have HMo := hid (mlist_succ_old (L := L) (n := rows.length) (k := k) (m := m) (nx := mN rows) (ac := mA accs))
        have HMn := hid (mlist_succ_new (L := L) (n := rows.length) (k := k) (m := m) (nx := mN rows) (ac := mA accs))
        rw [show VV (mA accs m, vnum 6 (fun c => (arrL L (mN rows) (mA accs) k rows.length)[mN rows m c]?.getD 0) L) = VV (vw L (mN rows) (mA accs) k rows.length m) from rfl]
        obtain ⟨b0, x0, x1, x2, x3, x4, x5, hV⟩ : ∃ b0 x0 x1 x2 x3 x4 x5, VV (vw L (mN rows) (mA accs) k rows.length m) = .agg #[.bool b0, .int .i64 x0, .int .i64 x1, .int .i64 x2, .int .i64 x3, .int .i64 x4, .int .i64 x5] := by
          have hl : (vnum 6 (fun c => (arrL L (mN rows) (mA accs) k rows.length)[mN rows m c]?.getD 0) L).length = 6 := vnum_len _ _ _ hL
          unfold vw
          generalize vnum 6 (fun c => (arrL L (mN rows) (mA accs) k rows.length)[mN rows m c]?.getD 0) L = vs at *
          match vs, hl with
          | [x0, x1, x2, x3, x4, x5], _ => exact ⟨_, x0, x1, x2, x3, x4, x5, rfl⟩
        rw [hV] at hkey HE HMn ⊢
        have hA3 : Below wv.heap.size wv (wv.alloc (.cells #[.bool b0, .int .i64 x0, .int .i64 x1, .int .i64 x2, .int .i64 x3, .int .i64 x4, .int .i64 x5] 148)) := (Below.refl _ _).alloc (Nat.le_refl _) _
        have HN3 := (HN.out.below hbv hszq).below hA3 (by have := hbv.size; omega)
        have HF3 := (HF.out.below hbv).below hA3
        have hsv := hbv.size
        have HB3 := HBq.out.trans ((hbv.trans (hA3.mono hbv.size)).mono HBq.out.size)
        have d0 := (HB3.cell (cell_lt c0)).trans c0
        have d1 := (HB3.cell (cell_lt c1)).trans c1
        have d2 := (HB3.cell (cell_lt c2)).trans c2
        have HArS := hid (arrL_succ L (mN rows) (mA accs) (k + 1) m)
        have HPs := hid (rowPad_set rows.length (arrL L (mN rows) (mA accs) (k + 1) m) (fsk L (mN rows) (mA accs) (k + 1) m : Int) (by rw [arrL_len]; omega))
        rw [arrL_len] at HPs
        have HPl := hid (rowPad_len rows.length (arrL L (mN rows) (mA accs) (k + 1) m) (by rw [arrL_len]; omega))
        have HFl := hid (fsk_le (L := L) (next := mN rows) (acc := mA accs) (k + 1) m)
        clear hV e0 e1 e2 hbv hA3
        by_cases hnew : fsk L (mN rows) (mA accs) (k + 1) m = m
        · have HMn := hid (HMn.out hnew)
          have hno : ∀ cc, (Value.agg #[.bool b0, .int .i64 x0, .int .i64 x1, .int .i64 x2, .int .i64 x3, .int .i64 x4, .int .i64 x5], cc) ∉ mlist L (mN rows) (mA accs) k rows.length m := fun cc hh => by
            have := (HE.out cc).1 hh; omega
          obtain ⟨v9, hrun1⟩ := HN3.lookNo law_view Try.underlying145 hkey hno
          obtain ⟨w4, hput, HN4, hgr4⟩ := HN3.store law_view Try.underlying145 hkey hno (by rw [mlist_len]; have := repsk_len (L := L) (next := mN rows) (acc := mA accs) (k + 1) m; unfold maxLen; omega) (m : Int) (by unfold I64; omega)
          rw [hnew] at HPs HArS
          have hgm : (some (wo.heap.size + 1) : Option Nat) ≠ some wv.heap.size := by simp; omega
          have q0 : w4.cell? ⟨wv.heap.size, 0, none⟩ = some (.bool b0) := (grown_cell hgr4 (p := ⟨wv.heap.size, 0, none⟩) (by simp) hgm).trans (by go_simp)
          have q1 : w4.cell? ⟨wv.heap.size, 1, none⟩ = some (.int .i64 x0) := (grown_cell hgr4 (p := ⟨wv.heap.size, 1, none⟩) (by simp) hgm).trans (by go_simp)
          have q2 : w4.cell? ⟨wv.heap.size, 2, none⟩ = some (.int .i64 x1) := (grown_cell hgr4 (p := ⟨wv.heap.size, 2, none⟩) (by simp) hgm).trans (by go_simp)
          have q3 : w4.cell? ⟨wv.heap.size, 3, none⟩ = some (.int .i64 x2) := (grown_cell hgr4 (p := ⟨wv.heap.size, 3, none⟩) (by simp) hgm).trans (by go_simp)
          have q4 : w4.cell? ⟨wv.heap.size, 4, none⟩ = some (.int .i64 x3) := (grown_cell hgr4 (p := ⟨wv.heap.size, 4, none⟩) (by simp) hgm).trans (by go_simp)
          have q5 : w4.cell? ⟨wv.heap.size, 5, none⟩ = some (.int .i64 x4) := (grown_cell hgr4 (p := ⟨wv.heap.size, 5, none⟩) (by simp) hgm).trans (by go_simp)
          have q6 : w4.cell? ⟨wv.heap.size, 6, none⟩ = some (.int .i64 x5) := (grown_cell hgr4 (p := ⟨wv.heap.size, 6, none⟩) (by simp) hgm).trans (by go_simp)
          have HF4 := HF3.keep (hgr4.block wo.heap.size HF3.lt (by simp))
          have r1 := HF4.cell m (by rw [HPl.out]; exact hlt)
          have r2 := HF4.frozen m
          have hrun2 := (HN4.lookYes law_view Try.underlying145 hkey (m : Int) (by simp)).2
          have HB4 := hid (HB3.grown hgr4 HB3.size (fun q hq => by cases hq; omega))
          have HN5 := hid ((HN4.setCell ⟨wo.heap.size, m, none⟩ (.int .i64 (m : Int)) (by simp)))
          rw [← HMn.out] at HN5
          have HF5 := hid (HF4.set m (m : Int))
          rw [HPs.out, ← HArS.out] at HF5
          clear HN3 HF3 HB3 HN4 HF4 hgr4 hgm hkey hno
          go_wp2
          go_roundg g2'
          case rel => exact ⟨m + 1, by omega, by go_num, HF5.out, HN5.out, HB4.out.setCell (p := ⟨wo.heap.size, m, none⟩) (by simp) _⟩
          all_goals omega
        · have HMo := hid (HMo.out hnew)
          have hin := (HE.out (fsk L (mN rows) (mA accs) (k + 1) m : Int)).2 ⟨by have := HFl.out; omega, rfl⟩
          obtain ⟨hrun1, hrun2⟩ := HN3.lookYes law_view Try.underlying145 hkey _ hin
          have r1 := HF3.cell m (by rw [HPl.out]; exact hlt)
          have r2 := HF3.frozen m
          have HB4 := hid HB3
          have HN5 := hid (HN3.setCell ⟨wo.heap.size, m, none⟩ (.int .i64 (fsk L (mN rows) (mA accs) (k + 1) m : Int)) (by simp))
          rw [← HMo.out] at HN5
          have HF5 := hid (HF3.set m (fsk L (mN rows) (mA accs) (k + 1) m : Int))
          rw [HPs.out, ← HArS.out] at HF5
          clear HN3 HF3 HB3 hkey hin hnew
          generalize fsk L (mN rows) (mA accs) (k + 1) m = y at *
          go_wp2
          go_roundg g2'
          case rel => exact ⟨m + 1, by omega, by go_num, HF5.out, HN5.out, HB4.out.setCell (p := ⟨wo.heap.size, m, none⟩) (by simp) _⟩
          all_goals omega
      · obtain rfl : m = rows.length := by omega
        have hln := fun ty => HN.out.lenRun (t := 145) Try.underlying145 ty
        rw [mlist_len] at hln
        have hle := repsk_len_le (L := L) (next := mN rows) (acc := mA accs) k rows.length
        have hpn := repsk_len (L := L) (next := mN rows) (acc := mA accs) (k + 1) rows.length
        have HF2 := HF.out
        rw [rowPad_full _ _ (arrL_len _ _ _ _ _)] at HF2
        have HI2 := hid (HF2.ints (by rw [arrL_len]; omega) (fun x hx => by
          unfold arrL at hx
          obtain ⟨s, hs, rfl⟩ := List.mem_map.1 hx
          have := fsk_le (L := L) (next := mN rows) (acc := mA accs) (k + 1) s
          have := List.mem_range.1 hs
          omega))
        have HBz := hid (HB.out.trans (HBq.out.mono HB.out.size))
        have hszz : w.heap.size < wr.heap.size := by omega
        have HP := hid (show (repsk L (mN rows) (mA accs) (k + 1) rows.length).length = (repsk L (mN rows) (mA accs) (k + 1) rows.length).length from rfl)
        clear HF HN HF2 HMw HK HB HBq hm hmle c0 c1 c2
        generalize hp : (repsk L (mN rows) (mA accs) (k + 1) rows.length).length = p at *
        generalize hq : (repsk L (mN rows) (mA accs) k rows.length).length = q at *
        have HPp := hid hp
        have HQq := hid hq
        clear hp hq
        by_cases heq : p = q
        · subst heq
          go_wp2
          go_ret2
          exact ⟨HBz.out, _, _, k, by rw [HPp.out]; rfl, HI2.out, .inl (by rw [HPp.out, HQq.out]; exact Nat.le_refl _)⟩
        · have hb : ((p : Int) == (q : Int)) = false := by simp; omega
          by_cases h64 : 64 < p
          · have h64' : (64 : Int) < (p : Int) := by omega
            go_wp2
            go_ret2
            exact ⟨HBz.out, _, _, k, by rw [HPp.out]; rfl, HI2.out, .inr (by rw [HPp.out]; exact h64)⟩
          · have h64' : ¬ (64 : Int) < (p : Int) := by omega
            obtain ⟨g', rfl⟩ : ∃ f, go = f + 1 := ⟨go - 1, by omega⟩
            go_wp2
            go_roundg (rows.length - p)
            case rel => exact ⟨k + 1, _, _, rfl, by rw [HPp.out], by rw [HPp.out]; omega, HI2.out, HBz.out, hszz, e0, e1, e2⟩
            all_goals omega
end Go.Proofs.Ytkboeldafppicaa
