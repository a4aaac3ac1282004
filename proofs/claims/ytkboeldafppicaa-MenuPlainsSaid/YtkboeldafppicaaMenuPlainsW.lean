/- The walk of the law MenuPlains. -/
import Derived.Test.YtkboeldafppicaaKn3
import Derived.Test.YtkboeldafppicaaPlD
import Derived.Test.YtkboeldafppicaaRCopyM
import Derived.Test.YtkboeldafppicaaREqual
import Derived.Test.YtkboeldafppicaaMLg
set_option linter.unusedVariables false
set_option linter.unusedSimpArgs false
namespace Go.Proofs.Ytkboeldafppicaa
open Go.RowKit

set_option maxRecDepth 100000 in
set_option maxHeartbeats 4000000 in
theorem menuPlains_walk (L : Int) (nc ac : Nat) (Na Aa : Option Addr) (rows : List (List Int)) (accs : List Bool) (w : World) (hM : MachRaw w Na rows Aa accs) :
    Calls Try.prog 4 #[.agg #[.int .i64 L, .slice Na rows.length nc, .slice Aa accs.length ac]] w fun e w' => Below w.heap.size w w' ∧ e = .returned (.bool true) := by
  have hA : Below w.heap.size w (w.alloc (.cells #[.int .i64 L, .slice Na rows.length nc, .slice Aa accs.length ac] 25)) := (Below.refl _ _).alloc (Nat.le_refl _) _
  have HX1 := hid (BoxM.made w L Na rows.length nc Aa accs.length ac)
  have hMb : MachRaw (w.alloc (.cells #[.int .i64 L, .slice Na rows.length nc, .slice Aa accs.length ac] 25)) Na rows Aa accs := hM.below hA
  have HLg := hid (lLarge_any L nc ac Na Aa rows accs _ hMb)
  have HA := hid hA
  unfold machV at HLg
  cases hlg : largeM rows accs with
  | true =>
    rw [hlg] at HLg
    clear hM hMb hlg hA
    have e0 := HX1.out.c0
    have e1 := HX1.out.c1
    have e2 := HX1.out.c2
    go_enter Try.func4, Try.ntmps4
    go_wp2_with fail
    refine HLg.out.mono ?_
    rintro e w1 ⟨rfl, rfl⟩
    go_wp2_with fail
    refine (known3_any _).mono ?_
    rintro e w2 ⟨hb, rfl⟩
    have HBz := hid ((HA.out.alloc HA.out.size (.cells #[.int .i64 L, .slice Na rows.length nc, .slice Aa accs.length ac] 25)).trans (hb.mono (HA.out.alloc HA.out.size (.cells #[.int .i64 L, .slice Na rows.length nc, .slice Aa accs.length ac] 25)).size))
    go_wp2
    go_ret
    exact ⟨HBz.out, rfl⟩
  | false =>
    obtain ⟨hmach, hr200⟩ := largeM_mach hM hlg
    have hbd : rows.length ≤ 200 ∧ accs.length ≤ 400 ∧ ∀ r ∈ rows, r.length ≤ 50 := by
      have h9 := hlg
      unfold largeM at h9
      simp at h9
      exact ⟨by omega, by omega, fun r hr => by have := h9.2 r hr; omega⟩
    obtain ⟨hb1, hb2, hb3⟩ := hbd
    have HR50 := hid hb3
    rw [hlg] at HLg
    have HMc := hid (hmach.below hA)
    clear hM hMb hlg hmach hA hr200 hb3
    go_enter Try.func4, Try.ntmps4
    have e0 := HX1.out.c0
    have e1 := HX1.out.c1
    have e2 := HX1.out.c2
    go_wp2_with fail
    refine HLg.out.mono ?_
    rintro e w1 ⟨hw1, rfl⟩
    have hbw : Below (w.alloc (.cells #[.int .i64 L, .slice Na rows.length nc, .slice Aa accs.length ac] 25)).heap.size (w.alloc (.cells #[.int .i64 L, .slice Na rows.length nc, .slice Aa accs.length ac] 25)) w1 := by rw [hw1]; exact (Below.refl _ _).alloc (Nat.le_refl _) _
    have HX1 := hid (HX1.out.below hbw)
    have HM1 := hid (HMc.out.below hbw)
    have HB1 := hid (HA.out.trans (hbw.mono HA.out.size))
    clear hw1 hbw HLg HMc HA e0 e1 e2
    have e0 := HX1.out.c0
    have e1 := HX1.out.c1
    have e2 := HX1.out.c2
    have HCp := hid (rCopyM_any L nc ac Na Aa rows accs w1 HM1.out (by omega) (fun r hr => by have := HR50.out r hr; omega) (by omega))
    unfold machV at HCp
    go_wp2_with fail
    refine HCp.out.mono ?_
    rintro e w2 ⟨hb2, Nx, ncx, Ax, acx, rfl, hMx⟩
    clear HCp e0 e1 e2
    have hal : Below w2.heap.size w2 (w2.alloc (.cells #[.int .i64 L, .slice Nx rows.length ncx, .slice Ax accs.length acx] 25)) := (Below.refl _ _).alloc (Nat.le_refl _) _
    have HX3 := hid (BoxM.made w2 L Nx rows.length ncx Ax accs.length acx)
    have HM3 := hid (hMx.below hal)
    have hb13 := hb2.trans (hal.mono hb2.size)
    have HX1 := hid (HX1.out.below hb13)
    have HM1 := hid (HM1.out.below hb13)
    have HB3 := hid (HB1.out.trans (hb13.mono HB1.out.size))
    clear hb2 hMx hal hb13 HB1
    have HPl := hid (mPlain_any L ncx acx Nx Ax rows accs _ HM3.out)
    unfold machV at HPl
    have e0 := HX3.out.c0
    have e1 := HX3.out.c1
    have e2 := HX3.out.c2
    go_wp2_with fail
    refine HPl.out.mono ?_
    rintro e w4 ⟨hb4, hans⟩
    clear HPl e0 e1 e2
    generalize w2.alloc (.cells #[.int .i64 L, .slice Nx rows.length ncx, .slice Ax accs.length acx] 25) = w3 at *
    have HX1c := HX1
    have HM1c := HM1
    have HX3c := HX3
    have HM3c := HM3
    obtain ⟨M, t, bs, v, Ng, ncg, Ag, acg, hD, rfl, hMg⟩ := pla_out hans
    have HD := hid hD
    have hal : Below w4.heap.size w4 (w4.alloc (.cells #[.int .i64 M, .slice Ng t.length ncg, .slice Ag bs.length acg] 25)) := (Below.refl _ _).alloc (Nat.le_refl _) _
    have HX4 := hid (BoxM.made w4 M Ng t.length ncg Ag bs.length acg)
    have HMg := hid (hMg.below hal)
    have HMg0 := hid hMg
    have hb35 := hb4.trans (hal.mono hb4.size)
    have HX1 := hid (HX1.out.below hb35)
    have HM1 := hid (HM1.out.below hb35)
    have HX3 := hid (HX3.out.below hb35)
    have HM3 := hid (HM3.out.below hb35)
    have HBc := hid hb35
    have HBg := hid hal
    clear hb4 hans hD hMg hal hb35
    have HPr := hid (rPlain_any L nc ac Na Aa rows accs _ HM1.out)
    unfold machV at HPr ⊢
    have e0 := HX1.out.c0
    have e1 := HX1.out.c1
    have e2 := HX1.out.c2
    go_wp2_with fail
    refine HPr.out.mono ?_
    rintro e w6 ⟨hb6, hans⟩
    clear HPr e0 e1 e2
    generalize w4.alloc (.cells #[.int .i64 M, .slice Ng t.length ncg, .slice Ag bs.length acg] 25) = w5 at *
    obtain ⟨M', t', bs', v', Nw, ncw, Aw, acw, hD, rfl, hMw⟩ := pla_out hans
    obtain ⟨rfl, rfl, rfl, rfl⟩ := HD.out.unique hD
    have HD := hid hD
    have hal : Below w6.heap.size w6 (w6.alloc (.cells #[.int .i64 M', .slice Nw t'.length ncw, .slice Aw bs'.length acw] 25)) := (Below.refl _ _).alloc (Nat.le_refl _) _
    have HX6 := hid (BoxM.made w6 M' Nw t'.length ncw Aw bs'.length acw)
    have HMw := hid (hMw.mach.below hal)
    have hb57 := hb6.trans (hal.mono hb6.size)
    have HX4 := hid (HX4.out.below hb57)
    have HMg := hid (HMg.out.mach.below hb57)
    have HBc := hid (HBc.out.trans (hb57.mono HBc.out.size))
    have HBg := hid (HBg.out.trans (hb57.mono HBg.out.size))
    clear hb6 hans hD hMw hal hb57 HX1 HM1 HX3 HM3
    have HEq := hid (rEqual_same M' ncg acg ncw acw Ng Ag Nw Aw t' bs' _ HMg.out HMw.out)
    unfold machV at HEq ⊢
    have e0 := HX4.out.c0
    have e1 := HX4.out.c1
    have e2 := HX4.out.c2
    have d0 := HX6.out.c0
    have d1 := HX6.out.c1
    have d2 := HX6.out.c2
    have hvv : (v' != v') = false := by simp
    go_wp2_with fail
    refine HEq.out.mono ?_
    rintro e w8 ⟨hb8, rfl⟩
    clear HEq e0 e1 e2 d0 d1 d2
    generalize w6.alloc (.cells #[.int .i64 M', .slice Nw t'.length ncw, .slice Aw bs'.length acw] 25) = w7 at *
    have HX4 := hid (HX4.out.below hb8)
    have HX6 := hid (HX6.out.below hb8)
    have HMg := hid (HMg.out.below hb8)
    have HMw := hid (HMw.out.below hb8)
    have HBc := hid (HBc.out.trans (hb8.mono HBc.out.size))
    have HBg := hid (HBg.out.trans (hb8.mono HBg.out.size))
    clear hb8
    have HPq := hid (mPlain_any M' ncg acg Ng Ag t' bs' _ HMg.out)
    unfold machV at HPq
    have e0 := HX4.out.c0
    have e1 := HX4.out.c1
    have e2 := HX4.out.c2
    go_wp2_with fail
    refine HPq.out.mono ?_
    rintro e w9 ⟨hb9, hans⟩
    clear HPq e0 e1 e2 hvv
    obtain ⟨M2, t2, bs2, v2, Nr, ncr, Ar, acr, hD2, rfl, hMr⟩ := pla_out hans
    have hal : Below w9.heap.size w9 (w9.alloc (.cells #[.int .i64 M2, .slice Nr t2.length ncr, .slice Ar bs2.length acr] 25)) := (Below.refl _ _).alloc (Nat.le_refl _) _
    have HX8 := hid (BoxM.made w9 M2 Nr t2.length ncr Ar bs2.length acr)
    have HMr := hid (hMr.mach.below hal)
    have hb810 := hb9.trans (hal.mono hb9.size)
    have HX4 := hid (HX4.out.below hb810)
    have HX6 := hid (HX6.out.below hb810)
    have HMw := hid (HMw.out.below hb810)
    have HBc := hid (HBc.out.trans (hb810.mono HBc.out.size))
    have HBg := hid (HBg.out.trans (hb810.mono HBg.out.size))
    clear hb9 hans hMr hal hb810 HMg
    unfold machV
    by_cases hv : v' = 0
    · subst hv
      obtain ⟨hv2, hM2, ht2, hbs2⟩ := HD.out.again hD2
      subst hv2 hM2 ht2 hbs2
      clear hD2
      have HEq := hid (rEqual_same M2 ncr acr ncw acw Nr Ar Nw Aw t2 bs2 _ HMr.out HMw.out)
      unfold machV at HEq
      have e0 := HX8.out.c0
      have e1 := HX8.out.c1
      have e2 := HX8.out.c2
      have d0 := HX6.out.c0
      have d1 := HX6.out.c1
      have d2 := HX6.out.c2
      go_wp2_with fail
      refine HEq.out.mono ?_
      rintro e w11 ⟨hb11, rfl⟩
      clear HEq e0 e1 e2 d0 d1 d2
      have HX4 := hid (HX4.out.below hb11)
      have HBc := hid (HBc.out.trans (hb11.mono HBc.out.size))
      have HBg := hid (HBg.out.trans (hb11.mono HBg.out.size))
      clear hb11 HX6 HX8 HMr HMw
      obtain ⟨hs64, hpos⟩ := HD.out.size
      obtain ⟨b, hNb, hSp⟩ := Spoil.start HMg0.out hpos HBg.out HX4.out.c1
      have HSp := hid hSp
      have HPos := hid hpos
      clear hSp hpos HX4
      go_wp2
      go_loopw [10] (fun i wr => ∃ (k : Nat), k ≤ t2.length ∧ i = .int .i64 (k : Int) ∧ Hid (Spoil w11 wr w3.heap.size w4.heap.size b Ng t2 ncg)) (fun i _ => t2.length - (intOf i).toNat)
      case atStart => exact ⟨0, Nat.zero_le _, rfl, HSp.out⟩
      case round =>
        clear HSp
        obtain ⟨k, hk, rfl, HSp⟩ := hrel
        have x1 := HSp.out.box
        by_cases hlt : k < t2.length
        · obtain ⟨g, cg, u, h1, h2, h3, h4, h5, h6⟩ := HSp.out.rows k hlt
          have hrp := HPos.out k hlt
          rcases hNb with e | e
          · rw [e] at hlt; simp at hlt
          have HS2 := hid (HSp.out.store h2 h3 h4 (.int .i64 (-1)))
          subst e
          have hk0 : (0 : Int) ≤ (k : Int) := by omega
          have hk1 : (k : Int) < (t2.length : Int) := by omega
          generalize (t2[k]?.getD []).length = n at *
          have hn0 : (0 : Int) < (n : Int) := by omega
          go_wp2
          go_roundw
          case rel => exact ⟨k + 1, by omega, by go_num, HS2.out⟩
          case measure => simp [intOf]; omega
        · have hkf : ¬ (k : Int) < (t2.length : Int) := by omega
          have hbr : Below w3.heap.size w3 wr := HBc.out.trans HSp.out.bel
          have HX1 := hid (HX1c.out.below hbr)
          have HM1 := hid (HM1c.out.below hbr)
          have HX3 := hid (HX3c.out.below hbr)
          have HM3 := hid (HM3c.out.below hbr)
          have HBr := hid (HB3.out.trans (hbr.mono HB3.out.size))
          have HEz := hid (rEqual_same L ncx acx nc ac Nx Ax Na Aa rows accs wr HM3.out HM1.out)
          unfold machV at HEz
          have e0 := HX3.out.c0
          have e1 := HX3.out.c1
          have e2 := HX3.out.c2
          have d0 := HX1.out.c0
          have d1 := HX1.out.c1
          have d2 := HX1.out.c2
          clear hbr
          go_wp2_with fail
          refine HEz.out.mono ?_
          rintro e w12 ⟨hb12, rfl⟩
          have HBs := hid (HBr.out.trans (hb12.mono HBr.out.size))
          clear hb12
          go_wp2_with fail
          refine (known3_any _).mono ?_
          rintro e w13 ⟨hb13, rfl⟩
          have HBz := hid (HBs.out.trans (hb13.mono HBs.out.size))
          clear hb13
          go_wp2
          go_ret
          exact ⟨HBz.out, rfl⟩
    · have hv0 : (v' == 0) = false := by simpa using hv
      clear hD2 HX6 HX8 HMr HMw
      obtain ⟨hs64, hpos⟩ := HD.out.size
      obtain ⟨b, hNb, hSp⟩ := Spoil.start HMg0.out hpos HBg.out HX4.out.c1
      have HSp := hid hSp
      have HPos := hid hpos
      clear hSp hpos HX4
      go_wp2
      go_loopw [10] (fun i wr => ∃ (k : Nat), k ≤ t'.length ∧ i = .int .i64 (k : Int) ∧ Hid (Spoil (w9.alloc (.cells #[.int .i64 M2, .slice Nr t2.length ncr, .slice Ar bs2.length acr] 25)) wr w3.heap.size w4.heap.size b Ng t' ncg)) (fun i _ => t'.length - (intOf i).toNat)
      case atStart => exact ⟨0, Nat.zero_le _, rfl, HSp.out⟩
      case round =>
        clear HSp
        obtain ⟨k, hk, rfl, HSp⟩ := hrel
        have x1 := HSp.out.box
        by_cases hlt : k < t'.length
        · obtain ⟨g, cg, u, h1, h2, h3, h4, h5, h6⟩ := HSp.out.rows k hlt
          have hrp := HPos.out k hlt
          rcases hNb with e | e
          · rw [e] at hlt; simp at hlt
          have HS2 := hid (HSp.out.store h2 h3 h4 (.int .i64 (-1)))
          subst e
          have hk0 : (0 : Int) ≤ (k : Int) := by omega
          have hk1 : (k : Int) < (t'.length : Int) := by omega
          generalize (t'[k]?.getD []).length = n at *
          have hn0 : (0 : Int) < (n : Int) := by omega
          go_wp2
          go_roundw
          case rel => exact ⟨k + 1, by omega, by go_num, HS2.out⟩
          case measure => simp [intOf]; omega
        · have hkf : ¬ (k : Int) < (t'.length : Int) := by omega
          have hbr : Below w3.heap.size w3 wr := HBc.out.trans HSp.out.bel
          have HX1 := hid (HX1c.out.below hbr)
          have HM1 := hid (HM1c.out.below hbr)
          have HX3 := hid (HX3c.out.below hbr)
          have HM3 := hid (HM3c.out.below hbr)
          have HBr := hid (HB3.out.trans (hbr.mono HB3.out.size))
          have HEz := hid (rEqual_same L ncx acx nc ac Nx Ax Na Aa rows accs wr HM3.out HM1.out)
          unfold machV at HEz
          have e0 := HX3.out.c0
          have e1 := HX3.out.c1
          have e2 := HX3.out.c2
          have d0 := HX1.out.c0
          have d1 := HX1.out.c1
          have d2 := HX1.out.c2
          clear hbr
          go_wp2_with fail
          refine HEz.out.mono ?_
          rintro e w12 ⟨hb12, rfl⟩
          have HBs := hid (HBr.out.trans (hb12.mono HBr.out.size))
          clear hb12
          go_wp2_with fail
          refine (known3_any _).mono ?_
          rintro e w13 ⟨hb13, rfl⟩
          have HBz := hid (HBs.out.trans (hb13.mono HBs.out.size))
          clear hb13
          go_wp2
          go_ret
          exact ⟨HBz.out, rfl⟩
end Go.Proofs.Ytkboeldafppicaa
