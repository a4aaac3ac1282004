/- The walk of the law MenuPoints. -/
import Derived.Test.YtkboeldafppicaaKn3
import Derived.Test.YtkboeldafppicaaPtR
import Derived.Test.YtkboeldafppicaaMOpen
set_option linter.unusedVariables false
set_option linter.unusedSimpArgs false
namespace Go.Proofs.Ytkboeldafppicaa
open Go.RowKit

set_option maxRecDepth 100000 in
set_option maxHeartbeats 4000000 in
theorem menuPoints_walk (L : Int) (nc ac : Nat) (Na Aa : Option Addr) (rows : List (List Int)) (accs : List Bool) (n : Int) (P : Option Addr) (ps : List Int) (cP : Nat) (tot : Int) (w : World) (hM : MachRaw w Na rows Aa accs) (hpl : ps.length ≤ 9223372036854775807) (hP : ps.length ≤ 140737488355328 → Ints w P ps) :
    Calls Try.prog 14 #[.agg #[.int .i64 L, .slice Na rows.length nc, .slice Aa accs.length ac], .agg #[.int .i64 n, .slice P ps.length cP, .int .i64 tot]] w fun e w' => Below w.heap.size w w' ∧ e = .returned (.bool true) := by
  have hrl := hM.1
  have hal := hM.2.1
  have hA : Below w.heap.size w ((w.alloc (amachO L Na rows.length nc Aa accs.length ac)).alloc (.cells #[.int .i64 n, .slice P ps.length cP, .int .i64 tot] 60)) := ((Below.refl _ _).alloc (Nat.le_refl _) _).alloc (by simp) _
  have HA := hid hA
  have hMb := hM.below hA
  have HLg := hid (lLarge_any L nc ac Na Aa rows accs _ hMb)
  unfold machV at HLg
  have c0 : ((w.alloc (amachO L Na rows.length nc Aa accs.length ac)).alloc (.cells #[.int .i64 n, .slice P ps.length cP, .int .i64 tot] 60)).cell? ⟨w.heap.size, 0, none⟩ = some (.int .i64 L) := by go_simp
  have c1 : ((w.alloc (amachO L Na rows.length nc Aa accs.length ac)).alloc (.cells #[.int .i64 n, .slice P ps.length cP, .int .i64 tot] 60)).cell? ⟨w.heap.size, 1, none⟩ = some (.slice Na rows.length nc) := by go_simp
  have c2 : ((w.alloc (amachO L Na rows.length nc Aa accs.length ac)).alloc (.cells #[.int .i64 n, .slice P ps.length cP, .int .i64 tot] 60)).cell? ⟨w.heap.size, 2, none⟩ = some (.slice Aa accs.length ac) := by go_simp
  have c3 : ((w.alloc (amachO L Na rows.length nc Aa accs.length ac)).alloc (.cells #[.int .i64 n, .slice P ps.length cP, .int .i64 tot] 60)).cell? ⟨w.heap.size + 1, 0, none⟩ = some (.int .i64 n) := by go_simp
  have c4 : ((w.alloc (amachO L Na rows.length nc Aa accs.length ac)).alloc (.cells #[.int .i64 n, .slice P ps.length cP, .int .i64 tot] 60)).cell? ⟨w.heap.size + 1, 1, none⟩ = some (.slice P ps.length cP) := by go_simp
  have c5 : ((w.alloc (amachO L Na rows.length nc Aa accs.length ac)).alloc (.cells #[.int .i64 n, .slice P ps.length cP, .int .i64 tot] 60)).cell? ⟨w.heap.size + 1, 2, none⟩ = some (.int .i64 tot) := by go_simp
  have hA2 : Below ((w.alloc (amachO L Na rows.length nc Aa accs.length ac)).alloc (.cells #[.int .i64 n, .slice P ps.length cP, .int .i64 tot] 60)).heap.size ((w.alloc (amachO L Na rows.length nc Aa accs.length ac)).alloc (.cells #[.int .i64 n, .slice P ps.length cP, .int .i64 tot] 60)) (((w.alloc (amachO L Na rows.length nc Aa accs.length ac)).alloc (.cells #[.int .i64 n, .slice P ps.length cP, .int .i64 tot] 60)).alloc (amachO L Na rows.length nc Aa accs.length ac)) := (Below.refl _ _).alloc (Nat.le_refl _) _
  have d0 := (hA2.cell (cell_lt c0)).trans c0
  have d1 := (hA2.cell (cell_lt c1)).trans c1
  have d2 := (hA2.cell (cell_lt c2)).trans c2
  have d3 := (hA2.cell (cell_lt c3)).trans c3
  have d4 := (hA2.cell (cell_lt c4)).trans c4
  have d5 := (hA2.cell (cell_lt c5)).trans c5
  have HB2 := hid (HA.out.trans (hA2.mono HA.out.size))
  cases hlg : largeM rows accs with
  | true =>
    rw [hlg] at HLg
    clear hM hMb hlg hA hA2 c0 c1 c2 c3 c4 c5 hP
    go_enter Try.func14, Try.ntmps14
    go_wp2_with fail
    refine HLg.out.mono ?_
    rintro e w1 ⟨rfl, rfl⟩
    go_wp2_with fail
    refine (known3_any _).mono ?_
    rintro e w2 ⟨hb, rfl⟩
    have HBz := hid (HB2.out.trans (hb.mono HB2.out.size))
    go_wp2
    go_ret
    exact ⟨HBz.out, rfl⟩
  | false =>
    rw [hlg] at HLg
    by_cases hl100 : 100 < ps.length
    · have hl1 : (100 : Int) < (ps.length : Int) := by omega
      clear hM hMb hlg hA hA2 c0 c1 c2 c3 c4 c5 hP hl100
      go_enter Try.func14, Try.ntmps14
      go_wp2_with fail
      refine HLg.out.mono ?_
      rintro e w1 ⟨rfl, rfl⟩
      go_wp2_with fail
      refine (known3_any _).mono ?_
      rintro e w2 ⟨hb, rfl⟩
      have HBz := hid (HB2.out.trans (hb.mono HB2.out.size))
      go_wp2
      go_ret
      exact ⟨HBz.out, rfl⟩
    · have hl1 : ¬ (100 : Int) < (ps.length : Int) := by omega
      obtain ⟨hmach, hr200⟩ := largeM_mach hM hlg
      have hPI := hP (by omega)
      have HP := hid (fun (x : Int) wx (hb : Below w.heap.size w wx) => mCountPoints_any L nc ac Na Aa rows accs n P ps cP x wx (hmach.below hb) (hPI.below hb))
      have HR := hid (fun wx (hb : Below w.heap.size w wx) => rCountPoints_any L nc ac Na Aa rows accs n P ps cP tot wx (hmach.below hb) (hPI.below hb))
      have HC := hid (fun wx (hb : Below w.heap.size w wx) => mCount_any L nc ac Na Aa rows accs n wx (hmach.below hb))
      unfold machV at HP HR HC
      have HB := hid HB2.out
      have HPt := hid (HP.out tot)
      clear hM hMb hlg hmach hA hA2 c0 c1 c2 c3 c4 c5 hP hPI hl100 HB2
      go_enter Try.func14, Try.ntmps14
      go_wp2_with fail
      refine HLg.out.mono ?_
      rintro e w1 ⟨rfl, rfl⟩
      generalize ((w.alloc (amachO L Na rows.length nc Aa accs.length ac)).alloc (.cells #[.int .i64 n, .slice P ps.length cP, .int .i64 tot] 60)).alloc (amachO L Na rows.length nc Aa accs.length ac) = w1 at *
      go_wp2_with fail
      refine (HPt.out _ HB.out).mono ?_
      rintro e w2 ⟨hb, rfl⟩
      have HB := hid (HB.out.trans (hb.mono HB.out.size))
      have d0 := (hb.cell (cell_lt d0)).trans d0
      have d1 := (hb.cell (cell_lt d1)).trans d1
      have d2 := (hb.cell (cell_lt d2)).trans d2
      have d3 := (hb.cell (cell_lt d3)).trans d3
      have d4 := (hb.cell (cell_lt d4)).trans d4
      have d5 := (hb.cell (cell_lt d5)).trans d5
      clear hb HPt
      go_wp2_with fail
      refine (HR.out _ HB.out).mono ?_
      rintro e w3 ⟨hb, rfl⟩
      have HB := hid (HB.out.trans (hb.mono HB.out.size))
      have d0 := (hb.cell (cell_lt d0)).trans d0
      have d1 := (hb.cell (cell_lt d1)).trans d1
      have d2 := (hb.cell (cell_lt d2)).trans d2
      have d3 := (hb.cell (cell_lt d3)).trans d3
      have d4 := (hb.cell (cell_lt d4)).trans d4
      have d5 := (hb.cell (cell_lt d5)).trans d5
      clear hb HR
      have q1 : (cpA L rows accs n ps tot != cpA L rows accs n ps tot) = false := by simp
      have q2 : (ptE L rows accs n ps != ptE L rows accs n ps) = false := by simp
      by_cases hv : ptE L rows accs n ps = 0
      · obtain ⟨hle, hpl2, hpa⟩ := ptE_ok hv
        obtain ⟨hvE, ⟨m, rfl, hm20⟩, ⟨l, rfl⟩⟩ := lenE_ok hle
        obtain ⟨hg, h64⟩ := vE_ok hvE
        have hpos := hg.pos
        have hcl : ∀ s c, s < rows.length → c < l → mN rows s c < rows.length := fun s c hs hc => (hg.ent s c hs hc).1
        have hP20 : ∀ c, c < l → ptp ps c ≤ 20 := fun c hc => ptp_le hpa c (by omega)
        have hsum := cpP_sum hP20 hpos hcl (mA accs) (wT l rows accs) (fun j s _ => rfl) (fun s => rfl) m
        have hca : cntA (l : Int) rows accs (m : Int) = wT l rows accs m 0 := by unfold cntA; rw [if_pos hle, Int.toNat_natCast, Int.toNat_natCast]
        obtain ⟨hw0, hw1⟩ := wT_small hg m 0 hm20 hpos
        have HCp := hid (fun (j : Nat) (hj : j ≤ 20 * m) => show cpA (l : Int) rows accs (m : Int) ps (j : Int) = cpP l rows.length (mN rows) (ptp ps) (mA accs) m j from by
          unfold cpA
          rw [if_pos ⟨hv, by omega, by omega⟩, Int.toNat_natCast, Int.toNat_natCast, Int.toNat_natCast])
        have hnn : ∀ q, 0 ≤ cpP l rows.length (mN rows) (ptp ps) (mA accs) m q := fun q => (cpP_bd hP20 hpos hcl (mA accs) m q rows.length (Nat.le_refl _)).1
        have HSb := hid (fun j (hj : j ≤ 20 * m + 1) => show 0 ≤ sumN (cpP l rows.length (mN rows) (ptp ps) (mA accs) m) j ∧ sumN (cpP l rows.length (mN rows) (ptp ps) (mA accs) m) j ≤ 3656158440062976 from ⟨sumN_nn _ _ (fun q _ => hnn q), by
          have := sumN_le (cpP l rows.length (mN rows) (ptp ps) (mA accs) m) (20 * m + 1) j hj (fun q _ => hnn q)
          omega⟩)
        have HSo := hid (fun j => show sumN (cpP l rows.length (mN rows) (ptp ps) (mA accs) m) (j + 1) = sumN (cpP l rows.length (mN rows) (ptp ps) (mA accs) m) j + cpP l rows.length (mN rows) (ptp ps) (mA accs) m j from rfl)
        have HNn := hid hnn
        have HSu := hid hsum
        rw [hle, hca] at HC
        rw [hv] at HP
        simp only [hv] at q2 ⊢
        clear hle hpl2 hpa hvE hg hP20 hcl hsum hca hnn hpos
        by_cases h4 : m ≤ 4
        · have h4' : ¬ (m : Int) > 4 := by omega
          have q3 : ((0 : Int) != 0) = false := by decide
          go_wp2_with fail
          go_loopw [9, 10, 11, 12] (fun v i _ _ wr => ∃ (j : Nat), j ≤ 20 * m + 1 ∧ i = .int .i64 (j : Int) ∧ v = .int .i64 (sumN (cpP l rows.length (mN rows) (ptp ps) (mA accs) m) j) ∧ Hid (Below w3.heap.size w3 wr)) (fun _ i _ _ _ => 20 * m + 1 - (intOf i).toNat)
          case atStart => exact ⟨0, by omega, rfl, rfl, Below.refl _ _⟩
          case round =>
            obtain ⟨j, hj, rfl, rfl, HBr⟩ := hrel
            have HBx := hid (HB.out.trans (HBr.out.mono HB.out.size))
            have f0 := (HBr.out.cell (cell_lt d0)).trans d0
            have f1 := (HBr.out.cell (cell_lt d1)).trans d1
            have f2 := (HBr.out.cell (cell_lt d2)).trans d2
            have f3 := (HBr.out.cell (cell_lt d3)).trans d3
            have f4 := (HBr.out.cell (cell_lt d4)).trans d4
            by_cases hjl : j ≤ 20 * m
            · have hj1 : (j : Int) ≤ (m : Int) * 20 := by omega
              have HQ := hid (HP.out (j : Int) wr HBx.out)
              rw [HCp.out j hjl] at HQ
              obtain ⟨s0, s1⟩ := HSb.out j (by omega)
              obtain ⟨s2, s3⟩ := HSb.out (j + 1) (by omega)
              have hs4 := HSo.out j
              have hs5 := HNn.out j
              have hy : cpP l rows.length (mN rows) (ptp ps) (mA accs) m j ≤ 3656158440062976 := by omega
              have HS4 := hid hs4
              clear hs4 s2 s3
              generalize sumN (cpP l rows.length (mN rows) (ptp ps) (mA accs) m) j = x at *
              generalize cpP l rows.length (mN rows) (ptp ps) (mA accs) m j = y at *
              go_wp2_with fail
              refine HQ.out.mono ?_
              rintro e w7 ⟨hb7, rfl⟩
              have HB7 := hid (HBr.out.trans (hb7.mono HBr.out.size))
              clear hb7 HQ f0 f1 f2 f3 f4
              go_wp2
              go_roundw
              case rel => exact ⟨j + 1, by omega, by go_num, by rw [HS4.out], HB7.out⟩
              case measure => simp [intOf]; omega
            · have hj1 : ¬ (j : Int) ≤ (m : Int) * 20 := by omega
              have hje : j = 20 * m + 1 := by omega
              have hsm : sumN (cpP l rows.length (mN rows) (ptp ps) (mA accs) m) j = wT l rows accs m 0 := by rw [hje]; exact HSu.out
              have q4 : (wT l rows accs m 0 == wT l rows accs m 0) = true := by simp
              have q5 : ((0 : Int) == 0) = true := by decide
              rw [hsm]
              clear hje hsm HSb HSo
              generalize wT l rows accs m 0 = x at *
              go_wp2_with fail
              refine (HC.out wr HBx.out).mono ?_
              rintro e w7 ⟨hb7, rfl⟩
              have HB := hid (HBx.out.trans (hb7.mono HBx.out.size))
              clear hb7 f0 f1 f2 f3 f4
              go_wp2_with fail
              refine (known3_any _).mono ?_
              rintro e wk ⟨hb, rfl⟩
              have HBz := hid (HB.out.trans (hb.mono HB.out.size))
              clear hb
              go_wp2
              go_ret
              exact ⟨HBz.out, rfl⟩
        · have h4' : (m : Int) > 4 := by omega
          have q3 : ((0 : Int) != 0) = false := by decide
          clear h4
          go_wp2_with fail
          refine (known3_any _).mono ?_
          rintro e wk ⟨hb, rfl⟩
          have HBz := hid (HB.out.trans (hb.mono HB.out.size))
          clear hb
          go_wp2
          go_ret
          exact ⟨HBz.out, rfl⟩
      · have hv' : (ptE L rows accs n ps != 0) = true := by simp [hv]
        clear hv HP HC
        generalize ptE L rows accs n ps = V at *
        generalize cpA L rows accs n ps tot = C at *
        go_wp2_with fail
        refine (known3_any _).mono ?_
        rintro e wk ⟨hb, rfl⟩
        have HBz := hid (HB.out.trans (hb.mono HB.out.size))
        clear hb
        go_wp2
        go_ret
        exact ⟨HBz.out, rfl⟩
end Go.Proofs.Ytkboeldafppicaa
