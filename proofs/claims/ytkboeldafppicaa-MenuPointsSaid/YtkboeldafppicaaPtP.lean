/- CountPoints of the program. -/
import Derived.Test.YtkboeldafppicaaPtT
import Derived.Test.YtkboeldafppicaaMCount
import Derived.Deep.Cut
set_option linter.unusedVariables false
set_option linter.unusedSimpArgs false
namespace Go.Proofs.Ytkboeldafppicaa
open Go.RowKit

/-- How many words of a length have a total. -/
def cpA (L : Int) (rows : List (List Int)) (accs : List Bool) (n : Int) (ps : List Int) (total : Int) : Int := if ptE L rows accs n ps = 0 ∧ 0 ≤ total ∧ total ≤ 20 * n then cpP L.toNat rows.length (mN rows) (ptp ps) (mA accs) n.toNat total.toNat else 0
theorem ptp_le {ps : List Int} (h : allB ps 21 = true) (c : Nat) (hc : c < ps.length) : ptp ps c ≤ 20 := by
  have := allB_iff.1 h _ (getD_mem ps c hc)
  unfold ptp
  omega
theorem powL {L k : Nat} (hL : L ≤ 6) (hk : k ≤ 20) : (L : Int) ^ k ≤ 3656158440062976 := by
  refine Int.le_trans ?_ (pow6_le k hk)
  have : L ^ k ≤ 6 ^ k := Nat.pow_le_pow_left hL k
  exact_mod_cast this
set_option maxRecDepth 100000 in
set_option maxHeartbeats 8000000 in
theorem mCountPoints_any (L : Int) (nc ac : Nat) (Na Aa : Option Addr) (rows : List (List Int)) (accs : List Bool) (n : Int) (A : Option Addr) (ps : List Int) (cap : Nat) (total : Int) (w : World) (h : MachAt w Na rows Aa accs) (hp : Ints w A ps) :
    Calls Try.prog 56 #[machV L Na rows.length nc Aa accs.length ac, .int .i64 n, .slice A ps.length cap, .int .i64 total] w fun e w' => Below w.heap.size w w' ∧ e = .returned (.tuple #[.int .i64 (cpA L rows accs n ps total), .int .i64 (ptE L rows accs n ps)]) := by
  have hA : Below w.heap.size w (w.alloc (.cells #[.int .i64 L, .slice Na rows.length nc, .slice Aa accs.length ac] 25)) := (Below.refl _ _).alloc (Nat.le_refl _) _
  have HM := hid (h.below hA)
  have HP := hid (hp.below hA)
  have HA := hid hA
  have HCk := hid (mCheckPoints_any L nc ac Na Aa rows accs n A ps cap _ HM.out HP.out)
  have c0 : (w.alloc (.cells #[.int .i64 L, .slice Na rows.length nc, .slice Aa accs.length ac] 25)).cell? ⟨w.heap.size, 0, none⟩ = some (.int .i64 L) := by go_simp
  have c1 : (w.alloc (.cells #[.int .i64 L, .slice Na rows.length nc, .slice Aa accs.length ac] 25)).cell? ⟨w.heap.size, 1, none⟩ = some (.slice Na rows.length nc) := by go_simp
  have c2 : (w.alloc (.cells #[.int .i64 L, .slice Na rows.length nc, .slice Aa accs.length ac] 25)).cell? ⟨w.heap.size, 2, none⟩ = some (.slice Aa accs.length ac) := by go_simp
  obtain ⟨X, hX⟩ : ∃ X, X = cpA L rows accs n ps total := ⟨_, rfl⟩
  rw [← hX]
  have HX := hid hX
  obtain ⟨V, hV⟩ : ∃ V, V = ptE L rows accs n ps := ⟨_, rfl⟩
  rw [← hV] at HCk ⊢
  have HV := hid hV
  clear hX hV h hp hA
  unfold machV at HCk ⊢
  go_enter Try.func56, Try.ntmps56
  go_upto_region 1 with (fail)
  generalize w.alloc (.cells #[.int .i64 L, .slice Na rows.length nc, .slice Aa accs.length ac] 25) = w0 at *
  go_wp2_with fail
  refine HCk.out.mono ?_
  rintro e w1 ⟨hb1, rfl⟩
  have HB1 := hid (HA.out.trans (hb1.mono HA.out.size))
  have HM1 := hid (HM.out.below hb1)
  have HP1 := hid (HP.out.below hb1)
  have c0 := (hb1.cell (cell_lt c0)).trans c0
  have c1 := (hb1.cell (cell_lt c1)).trans c1
  have c2 := (hb1.cell (cell_lt c2)).trans c2
  clear hb1 HCk HM HP HA
  by_cases hv0 : V = 0
  · subst hv0
    have hv := HV.out.symm
    obtain ⟨hle, hpl, hpa⟩ := ptE_ok hv
    obtain ⟨hvE, ⟨m, rfl, hm20⟩, ⟨l, rfl⟩⟩ := lenE_ok hle
    obtain ⟨hg, h64⟩ := vE_ok hvE
    have hal := hg.acc
    rw [hal] at c2
    have HX2 := hid (show X = if 0 ≤ total ∧ total ≤ 20 * (m : Int) then cpP l rows.length (mN rows) (ptp ps) (mA accs) m total.toNat else 0 from by
      rw [HX.out]
      unfold cpA
      by_cases e : 0 ≤ total ∧ total ≤ 20 * (m : Int)
      · rw [if_pos ⟨hv, e⟩, if_pos e, Int.toNat_natCast, Int.toNat_natCast]
      · rw [if_neg (fun hh => e hh.2), if_neg e])
    have HIb := hid (fun wx => mIsBelow_any total ((m : Int) * 20 + 1) wx)
    have HG := hid hg
    have hmm : (m : Int) * 20 ≤ 400 := by omega
    have hmm0 : 0 ≤ (m : Int) * 20 := by omega
    have hplN : ps.length = l := by omega
    have HPL := hid hplN
    have HPA := hid hpa
    clear hv hle hvE hpl hpa HX hal hplN
    by_cases ht : 0 ≤ total ∧ total < (m : Int) * 20 + 1
    · have hd : decide (0 ≤ total ∧ total < (m : Int) * 20 + 1) = true := decide_eq_true ht
      rw [hd] at HIb
      have HX3 := hid (HX2.out.trans (if_pos (by omega)))
      obtain ⟨t, rfl⟩ : ∃ t : Nat, total = t := ⟨total.toNat, by omega⟩
      have ht4 : t ≤ 400 := by omega
      have hpos := hg.pos
      have hP20 : ∀ c, c < l → ptp ps c ≤ 20 := fun c hc => ptp_le HPA.out c (by have := HPL.out; omega)
      have HFb := hid (fun k i q (hk : k ≤ 20) (hi : i < rows.length) => show 0 ≤ fwP l rows.length (mN rows) (ptp ps) k i q ∧ fwP l rows.length (mN rows) (ptp ps) k i q ≤ 3656158440062976 from ⟨fwP_nn k i q, Int.le_trans (fwP_bd hP20 hpos (fun s c hs hc => (hg.ent s c hs hc).1) k i q hi) (powL hg.hi hk)⟩)
      have HCb := hid (fun j (hj : j ≤ rows.length) => show 0 ≤ sumN (fun s => if mA accs s = true then fwP l rows.length (mN rows) (ptp ps) m s t else 0) j ∧ sumN (fun s => if mA accs s = true then fwP l rows.length (mN rows) (ptp ps) m s t else 0) j ≤ 3656158440062976 from by
        have := cpP_bd hP20 hpos (fun s c hs hc => (hg.ent s c hs hc).1) (mA accs) m t j hj
        exact ⟨this.1, Int.le_trans this.2 (powL hg.hi hm20)⟩)
      clear hd ht hP20
      go_wp2_with fail
      refine (HIb.out _).mono ?_
      rintro e w2 ⟨rfl, rfl⟩
      go_upto_region 7 with (fail)
      have hA3 : Below w2.heap.size w2 (w2.alloc (.cells #[.int .i64 (l : Int), .slice Na rows.length nc, .slice Aa rows.length ac] 73)) := (Below.refl _ _).alloc (Nat.le_refl _) _
      have HM3 := hid (HM1.out.below hA3)
      have HP3 := hid (HP1.out.below hA3)
      have HB3 := hid (HB1.out.trans (hA3.mono HB1.out.size))
      have d0 : (w2.alloc (.cells #[.int .i64 (l : Int), .slice Na rows.length nc, .slice Aa rows.length ac] 73)).cell? ⟨w2.heap.size, 0, none⟩ = some (.int .i64 (l : Int)) := by go_simp
      have d1 : (w2.alloc (.cells #[.int .i64 (l : Int), .slice Na rows.length nc, .slice Aa rows.length ac] 73)).cell? ⟨w2.heap.size, 1, none⟩ = some (.slice Na rows.length nc) := by go_simp
      have d2 : (w2.alloc (.cells #[.int .i64 (l : Int), .slice Na rows.length nc, .slice Aa rows.length ac] 73)).cell? ⟨w2.heap.size, 2, none⟩ = some (.slice Aa rows.length ac) := by go_simp
      clear hA3 c0 c1 c2 HB1 HM1 HP1
      generalize hw3 : w2.alloc (.cells #[.int .i64 (l : Int), .slice Na rows.length nc, .slice Aa rows.length ac] 73) = w3 at *
      clear hw3
      obtain ⟨pm, hpm⟩ : ∃ x, x = w2.heap.size := ⟨_, rfl⟩
      rw [← hpm] at d0 d1 d2 ⊢
      clear hpm
      have HD3 := hid (And.intro d0 (And.intro d1 d2))
      have hNt := noTotals_any l rows.length nc ac Na Aa t w3 (by omega) ht4
      unfold machV at hNt
      have HNt := hid hNt
      clear hNt
      go_wp2_with fail
      refine HNt.out.mono ?_
      rintro e w4 ⟨hb4, g, G, rfl, hZ⟩
      have HB4 := hid (HB3.out.trans (hb4.mono HB3.out.size))
      have HM4 := hid (HM3.out.below hb4)
      have HP4 := hid (HP3.out.below hb4)
      have d0 := (hb4.cell (cell_lt d0)).trans d0
      have d1 := (hb4.cell (cell_lt d1)).trans d1
      have d2 := (hb4.cell (cell_lt d2)).trans d2
      have hp1 : (0 : Int) < (rows.length : Int) := by omega
      have y0 := hZ.tab.cell 0 hpos
      have y1 := hZ.tab.get 0 0 hpos (by omega)
      have y1f := (hZ.tab.rows 0 hpos).frozen 0
      have HZ5 := hid ((hZ.store 0 0 hpos (by omega) 1).congr (F' := fwP l rows.length (mN rows) (ptp ps) 0) (fun i q _ _ => rfl))
      have hG0 := (hZ.tab.ne 0 hpos).1
      have hBs : Below w3.heap.size w3 (w4.setCell ⟨G 0, 0, none⟩ (.int .i64 1)) := hb4.setCell (p := ⟨G 0, 0, none⟩) hG0 _
      have HB5 := hid hBs
      have ht0 : (0 : Int) < (t : Int) + 1 := by omega
      clear HNt hZ hb4 hBs
      go_upto_region 9 with (fail)
      clear y0 y1 y1f hG0
      clear d0 d1 d2
      generalize w4.setCell ⟨G 0, 0, none⟩ (.int .i64 1) = w5 at *
      have HZ5 := hid (show TabZ w5 w3.heap.size g rows.length (t + 1) (fwP l rows.length (mN rows) (ptp ps) 0) G from HZ5.out)
      go_wp2_with fail
      go_loopw [12, 37] (fun v i wr => ∃ (k g : Nat) (G : Nat → Nat), k ≤ m ∧ i = .int .i64 (k : Int) ∧ v = .slice (some ⟨g, 0, none⟩) rows.length rows.length ∧ Hid (TabZ wr w3.heap.size g rows.length (t + 1) (fwP l rows.length (mN rows) (ptp ps) k) G) ∧ Hid (Below w3.heap.size w3 wr)) (fun _ i _ => m - (intOf i).toNat)
      case atStart => exact ⟨0, g, G, Nat.zero_le _, rfl, rfl, HZ5.out, HB5.out⟩
      case round =>
        clear HZ5 HB5 HB4 HM4 HP4
        obtain ⟨k, g, G, hk, rfl, rfl, HZ, HB⟩ := hrel
        have d0 := (HB.out.cell (cell_lt HD3.out.1)).trans HD3.out.1
        have d1 := (HB.out.cell (cell_lt HD3.out.2.1)).trans HD3.out.2.1
        have d2 := (HB.out.cell (cell_lt HD3.out.2.2)).trans HD3.out.2.2
        by_cases hlt : k < m
        · have hlt1 : (k : Int) < (m : Int) := by omega
          have hLg := longer_any l nc ac Na Aa rows accs w3.heap.size g (t + 1) (fwP l rows.length (mN rows) (ptp ps) k) G A ps cap wr (HM3.out.below HB.out) HG.out h64 HZ.out.tab (by omega) (HP3.out.below HB.out) HPL.out HPA.out (fun s q => fwP_nn k s q) (fun i q hi _ => (HFb.out (k + 1) i q (by omega) hi).2)
          unfold machV at hLg
          have HLg := hid hLg
          clear hLg
          go_wp2_with fail
          refine HLg.out.mono ?_
          rintro e w7 ⟨hb7, g7, G7, rfl, hZ7⟩
          have HZ7 := hid (show TabZ w7 w3.heap.size g7 rows.length (t + 1) (fwP l rows.length (mN rows) (ptp ps) (k + 1)) G7 from ⟨hZ7.tab.weak HB.out.size, hZ7.inj⟩)
          have HB7 := hid (HB.out.trans (hb7.mono HB.out.size))
          clear hZ7 hb7 HLg HZ HB d0 d1 d2
          go_wp2
          go_roundw
          case rel => first | exact ⟨k + 1, g7, G7, by omega, by go_num, rfl, HZ7.out, HB7.out⟩ | exact ⟨k + 1, by omega, by go_num, g7, rfl, G7, HZ7.out, HB7.out⟩
          case measure => simp [intOf]; omega
        · have hlt1 : ¬ (k : Int) < (m : Int) := by omega
          have hkm : k = m := by omega
          subst hkm
          go_wp2_with fail
          go_loopw [13, 14, 47] (fun v _ i wr => ∃ (j : Nat), j ≤ rows.length ∧ i = .int .i64 (j : Int) ∧ v = .int .i64 (sumN (fun s => if mA accs s = true then fwP l rows.length (mN rows) (ptp ps) k s t else 0) j) ∧ Hid (TabZ wr w3.heap.size g rows.length (t + 1) (fwP l rows.length (mN rows) (ptp ps) k) G) ∧ Hid (Below w3.heap.size w3 wr)) (fun _ _ i _ => rows.length - (intOf i).toNat)
          case atStart => exact ⟨0, Nat.zero_le _, rfl, rfl, HZ.out, HB.out⟩
          case round =>
            clear HZ HB d0 d1 d2
            obtain ⟨j, hj, rfl, rfl, HZ, HB⟩ := hrel
            have d0 := (HB.out.cell (cell_lt HD3.out.1)).trans HD3.out.1
            have d1 := (HB.out.cell (cell_lt HD3.out.2.1)).trans HD3.out.2.1
            have d2 := (HB.out.cell (cell_lt HD3.out.2.2)).trans HD3.out.2.2
            by_cases hjl : j < rows.length
            · have hj1 : (j : Int) < (rows.length : Int) := by omega
              have hj0 : (0 : Int) ≤ (j : Int) := by omega
              have hAc := accepts_any l j nc ac rows.length rows.length Na Aa rows accs wr (HM3.out.below HB.out) (by rw [HG.out.acc]; exact hjl) HG.out.acc.symm
              unfold machV at hAc
              have HAc := hid hAc
              have HSu := hid (show sumN (fun s => if mA accs s = true then fwP l rows.length (mN rows) (ptp ps) k s t else 0) (j + 1) = sumN (fun s => if mA accs s = true then fwP l rows.length (mN rows) (ptp ps) k s t else 0) j + (if mA accs j = true then fwP l rows.length (mN rows) (ptp ps) k j t else 0) from rfl)
              obtain ⟨q1, q2⟩ := HCb.out j (by omega)
              obtain ⟨q3, q4⟩ := HFb.out k j t hm20 hjl
              generalize sumN (fun s => if mA accs s = true then fwP l rows.length (mN rows) (ptp ps) k s t else 0) j = x at *
              clear hAc
              go_wp2_with fail
              refine HAc.out.mono ?_
              rintro e w7 ⟨rfl, rfl⟩
              have hA7 : Below wr.heap.size wr (wr.alloc (machO l Na rows.length nc Aa rows.length ac)) := (Below.refl _ _).alloc (Nat.le_refl _) _
              have HZ7 := hid (HZ.out.below hA7)
              have HB7 := hid (HB.out.trans (hA7.mono HB.out.size))
              clear HZ HB d0 d1 d2 HAc hA7
              generalize wr.alloc (machO l Na rows.length nc Aa rows.length ac) = w8 at *
              have y0 := HZ7.out.tab.cell j hjl
              have y1 := HZ7.out.tab.get j t hjl (by omega)
              have ht1 : (t : Int) < (t : Int) + 1 := by omega
              have htt : (0 : Int) ≤ (t : Int) := by omega
              cases hb : mA accs j with
              | true =>
                have HS2 := hid (HSu.out.trans (by rw [if_pos hb]))
                clear hb HSu
                generalize fwP l rows.length (mN rows) (ptp ps) k j t = y at *
                go_wp2
                go_roundw
                case rel => exact ⟨j + 1, by omega, by go_num, by rw [HS2.out], HZ7.out, HB7.out⟩
                case measure => simp [intOf]; omega
              | false =>
                have HS2 := hid (HSu.out.trans (by rw [if_neg (by rw [hb]; simp)]))
                clear hb HSu y0 y1
                go_wp2
                go_roundw
                case rel => exact ⟨j + 1, by omega, by go_num, by rw [HS2.out, Int.add_zero], HZ7.out, HB7.out⟩
                case measure => simp [intOf]; omega
            · have hj1 : ¬ (j : Int) < (rows.length : Int) := by omega
              have hjn : j = rows.length := by omega
              have HX4 := hid (show X = sumN (fun s => if mA accs s = true then fwP l rows.length (mN rows) (ptp ps) k s t else 0) j from by
                rw [HX3.out, hjn, Int.toNat_natCast]; rfl)
              have HBz := hid (HB3.out.trans (HB.out.mono HB3.out.size))
              clear hjn HZ HB d0 d1 d2 HX3 HX2
              generalize sumN (fun s => if mA accs s = true then fwP l rows.length (mN rows) (ptp ps) k s t else 0) j = x at *
              go_wp2
              refine bodyPost_ret (v := .tuple #[.int .i64 x, .int .i64 0]) (by simp [results, Try.results56, go_sem]) rfl ⟨HBz.out, by rw [HX4.out]⟩
    · have hd : decide (0 ≤ total ∧ total < (m : Int) * 20 + 1) = false := decide_eq_false ht
      rw [hd] at HIb
      have HX3 := hid (HX2.out.trans (if_neg (by omega)))
      clear hd ht
      go_wp2_with fail
      refine (HIb.out _).mono ?_
      rintro e w2 ⟨rfl, rfl⟩
      go_wp2
      refine bodyPost_ret (v := .tuple #[.int .i64 0, .int .i64 0]) (by simp [results, Try.results56, go_sem]) rfl ⟨HB1.out, by rw [HX3.out]⟩
  · have hv' : (V != 0) = true := by simp [hv0]
    have HX3 := hid (show X = 0 from HX.out.trans (if_neg (fun hh => hv0 (HV.out.trans hh.1))))
    clear hv0 HX HV
    go_wp2
    refine bodyPost_ret (v := .tuple #[.int .i64 0, .int .i64 V]) (by simp [results, Try.results56, go_sem]) rfl ⟨HB1.out, by rw [HX3.out]⟩
end Go.Proofs.Ytkboeldafppicaa
