/- The document's own Halving. -/
import Derived.Test.YtfjncmhbpfcdiaaGuRA
import Derived.Test.YtfjncmhbpfcdiaaGuH
set_option linter.unusedVariables false
namespace Go.Proofs.Ytfjncmhbpfcdiaa
open Go.RowKit

/-- Votes for and against, as far as they were counted. -/
def Votes (w : Nat → Nat) (l : List Bool) (k : Nat) (y n : Nat) : Prop := y ≤ k ∧ n ≤ k ∧ (y : Int) - n = surp w l k
set_option maxRecDepth 100000 in
set_option maxHeartbeats 4000000 in
theorem grHalving_any (a : Option Addr) (g : List Rnd) (cap : Nat) (w : World) (h : GameAt w a g) (hcap : g.length ≤ cap) : Calls Try.prog 35 #[.slice a g.length cap] w (HalfR w (halfV g)) := by
  obtain ⟨i0, hinf, hz0, hz1, hz2⟩ := info_parts int_info
  have hlen := h.len
  have HC := hid (grRounds_any a g cap w h)
  have HE := hid (show halfV g = if gameN g = 0 then (if (rightTo g (advs g)).length = 0 then ([], 0, false, 0) else (rightTo g (advs g), (errN 1 g g.length : Int), true, 0)) else ([], 0, false, gameN g) from rfl)
  by_cases h0 : gameN g = 0
  · have HE2 := hid ((HE.out).trans (if_pos h0))
    clear HE
    obtain ⟨hg0, hpos⟩ := gameN_ok h0
    have hg := gameE_ok hg0
    have had := hg.adv 0 hpos
    rw [h0] at HC
    rcases h.at_ with e | ⟨b, off, rfl, hc⟩
    · rw [e] at hpos; simp at hpos
    have HCs := hid hc
    have HAd := hid (fun i hi => (hg.adv i hi).1)
    obtain ⟨A, c, c0, _, s0⟩ := hc 0 hpos
    rw [Nat.zero_mul, Nat.add_zero, had.1] at c0
    have hbl := cell_lt c0
    dsimp only at hbl
    have g0' : (0 : Int) < (g.length : Int) := by omega
    have HC0 := hid c0
    have HWr := hid (fun (n : Nat) (hn : n < advs g) W (hb : Below w.heap.size w W) => grWrong_any (some ⟨b, off, none⟩) g cap n W (h.below hb) hg.len (fun i hi => by rw [(hg.adv i hi).1]; exact hn))
    have HWi := hid (fun (i : Nat) (hi : i ≤ g.length) (n : Nat) (hn : n < advs g) W (hb : Below w.heap.size w W) => (show Calls Try.prog 47 #[.slice (some ⟨b, off, none⟩) i cap, .int .i64 (n : Int)] W (DrwI W (wrongN g n i)) from by
      have hlk : (g.take i).length = i := by simp; omega
      have := grWrong_any (some ⟨b, off, none⟩) (g.take i) cap n W ((h.below hb).take i hi) (by have := hg.len; omega) (fun j hj => by rw [rAt_take g i j (by omega), (hg.adv j (by omega)).1]; exact hn)
      rw [hlk, wrongN_take g n i i (Nat.le_refl _)] at this
      exact this))
    have hl24 := hg.len
    have a1 : 1 ≤ advs g := had.2.1
    have a8 : advs g ≤ 8 := had.2.2
    have HRs := hid (show ∀ k, rightTo g (k + 1) = rightTo g k ++ if wrongN g k g.length = 0 then [(k : Int)] else [] from fun k => rfl)
    have HRl := hid (rightTo_len g)
    have HRb := hid (rightTo_bd g (advs g) a8)
    have HEl := hid (errN_le 1 g)
    have HEs := hid (show ∀ k, errN 1 g (k + 1) = errN 1 g k + if saidN 1 g k = (rAt g k).2 then 0 else 1 from fun k => rfl)
    have HSd := hid (show ∀ k, saidN 1 g k = decide (0 < surp (fun a => wtN 1 g a k) (rAt g k).1 (rAt g k).1.length) from fun k => rfl)
    have HW1 := hid (fun x k => wt1_iff g x k)
    have HSu := hid (show ∀ f l k, surp f l (k + 1) = surp f l k + if bAt l k = true then (f k : Int) else -(f k : Int) from fun f l k => rfl)
    have hwle := hid (fun x k => wrongN_le g x k)
    generalize advs g = d at *
    clear h h0 hg hg0 had hc s0 c0
    go_enter Try.func35, Try.ntmps35
    go_wp2_with fail
    refine HC.out.mono ?_
    rintro e w1 ⟨rfl, rfl⟩
    go_wp2
    go_loopw [7, 8] (fun t i wr => ∃ (k : Nat), k ≤ g.length ∧ i = .int .i64 k ∧ t = .int .i64 (errN 1 g k) ∧ Hid (∃ n, wr = w.drewN n)) (fun _ i _ => g.length - (intOf i).toNat)
    case atStart => exact ⟨0, Nat.zero_le _, rfl, rfl, ⟨0, rfl⟩⟩
    case round =>
      obtain ⟨i, hi, rfl, rfl, HWo⟩ := hrel
      by_cases hlt : i < g.length
      · obtain ⟨A1, c1, c2, c3, m1⟩ := HCs.out i hlt
        have hr := HAd.out i hlt
        have HM := hid m1
        have HE3 := hid (HEs.out i)
        have HS3 := hid (HSd.out i)
        rw [hr] at HS3
        have hei := HEl.out i
        clear m1
        rw [hr] at c2
        have HC2 := hid c2
        have HC3 := hid c3
        have HR := hid hr
        clear hr c2 c3
        have hcap' : i ≤ cap := by omega
        have hicap : (i : Int) ≤ (cap : Int) := by omega
        generalize (rAt g i).1 = r at *
        generalize (rAt g i).2 = q at *
        generalize saidN 1 g i = sd at *
        generalize errN 1 g i = en at *
        go_wp2
        go_loopw [9, 10, 11] (fun y n x wr => ∃ (k : Nat), k ≤ d ∧ x = .int .i64 k ∧ (∃ (yy nn : Nat), y = .int .i64 yy ∧ n = .int .i64 nn ∧ Hid (Votes (fun a => wtN 1 g a i) r k yy nn)) ∧ Hid (∃ n, wr = w.drewN n)) (fun _ _ x _ => d - (intOf x).toNat)
        case atStart => exact ⟨0, Nat.zero_le _, rfl, ⟨0, 0, rfl, rfl, Nat.le_refl _, Nat.le_refl _, by simp [surp]⟩, HWo⟩
        case round =>
          obtain ⟨k, hk, rfl, ⟨yy, nn, rfl, rfl, HV⟩, HWn⟩ := hrel
          obtain ⟨n9, hn9⟩ := HWn.out
          have d0 : wr.cell? ⟨b, off, none⟩ = some (.slice A d c) := by rw [hn9]; exact HC0.out
          have d2 : wr.cell? ⟨b, off + i * 2, none⟩ = some (.slice A1 d c1) := by rw [hn9]; exact HC2.out
          have d3 : wr.cell? ⟨b, off + i * 2 + 1, none⟩ = some (.bool q) := by rw [hn9]; exact HC3.out
          have hy1 := HV.out.1
          have hn1 := HV.out.2.1
          by_cases hkd : k < d
          · have HWc := hid (show Calls Try.prog 47 #[.slice (some ⟨b, off, none⟩) i cap, .int .i64 (k : Int)] wr (DrwI wr (wrongN g k i)) from HWi.out i hi k hkd wr (by rw [hn9]; exact below_drewN (Below.refl _ _) n9))
            have hrk := HR.out
            rcases (HM.out.below (show Below w.heap.size w wr by rw [hn9]; exact below_drewN (Below.refl _ _) n9)).at_ with e | ⟨b2, off2, rfl, hm⟩
            · rw [e] at hrk; simp at hrk; omega
            have m0 := hm k (by omega)
            have HX := hid (HW1.out k i)
            have HU := hid (HSu.out (fun a => wtN 1 g a i) r k)
            have hwl := hwle.out k i
            clear hn9 n9 hm hrk
            generalize wtN 1 g k i = wt at *
            generalize wrongN g k i = wn at *
            by_cases hz : wn = 0
            · have HX2 := hid ((HX.out).trans (if_pos hz))
              have hz' : (wn : Int) ≤ 0 := by omega
              clear HX hz
              cases hb : bAt r k with
              | true =>
                rw [hb] at m0 HU
                have HV2 : Hid (Votes (fun a => wtN 1 g a i) r (k + 1) (yy + 1) nn) := ⟨by omega, by omega, by rw [HU.out, if_pos rfl, HX2.out]; have := HV.out.2.2; omega⟩
                clear hb HU HX2 HV
                go_wp2_with fail
                refine HWc.out.mono ?_
                rintro e w4 ⟨m4, rfl, rfl⟩
                go_wp2
                go_roundw
                case rel => exact ⟨k + 1, by omega, by go_num, ⟨yy + 1, nn, by go_num, rfl, HV2⟩, by obtain ⟨n, e⟩ := HWn.out; exact ⟨n + m4, by rw [e, World.drewN_drewN]⟩⟩
                case measure => simp [intOf]; omega
              | false =>
                rw [hb] at m0 HU
                have HV2 : Hid (Votes (fun a => wtN 1 g a i) r (k + 1) yy (nn + 1)) := ⟨by omega, by omega, by rw [HU.out, if_neg (by simp), HX2.out]; have := HV.out.2.2; omega⟩
                clear hb HU HX2 HV
                go_wp2_with fail
                refine HWc.out.mono ?_
                rintro e w4 ⟨m4, rfl, rfl⟩
                go_wp2
                go_roundw
                case rel => exact ⟨k + 1, by omega, by go_num, ⟨yy, nn + 1, rfl, by go_num, HV2⟩, by obtain ⟨n, e⟩ := HWn.out; exact ⟨n + m4, by rw [e, World.drewN_drewN]⟩⟩
                case measure => simp [intOf]; omega
            · have HX2 := hid ((HX.out).trans (if_neg hz))
              have hz' : (0 : Int) < (wn : Int) := by omega
              have HV2 : Hid (Votes (fun a => wtN 1 g a i) r (k + 1) yy nn) := ⟨by omega, by omega, by rw [HU.out, HX2.out]; have := HV.out.2.2; split <;> omega⟩
              clear HX hz HU HX2 HV
              go_wp2_with fail
              refine HWc.out.mono ?_
              rintro e w4 ⟨m4, rfl, rfl⟩
              go_wp2
              go_roundw
              case rel => exact ⟨k + 1, by omega, by go_num, ⟨yy, nn, rfl, rfl, HV2⟩, by obtain ⟨n, e⟩ := HWn.out; exact ⟨n + m4, by rw [e, World.drewN_drewN]⟩⟩
              case measure => simp [intOf]; omega
          · obtain rfl : k = d := by omega
            clear hn9 n9
            have hvs := HV.out.2.2
            by_cases hyn : nn < yy
            · have hyn' : (nn : Int) < (yy : Int) := by omega
              have hdy : decide (nn < yy) = true := decide_eq_true hyn
              have HS4 := hid ((HS3.out).trans (decide_eq_true (by omega)))
              rw [HS4.out] at HE3
              clear hvs HS3 HS4 hyn
              cases q
              · have HE4 := hid (show errN 1 g (i + 1) = en + 1 by rw [HE3.out]; simp)
                clear HE3
                go_wp2_with fail
                (try go_quiet (fail))
                go_wp2
                go_roundw
                case rel => exact ⟨i + 1, by omega, by go_num, by rw [HE4.out]; go_num, by obtain ⟨n, e⟩ := HWn.out; first | exact ⟨n, e⟩ | exact ⟨_, by rw [e, World.drewN_drewN]⟩⟩
                case measure => simp [intOf]; omega
              · have HE4 := hid (show errN 1 g (i + 1) = en by rw [HE3.out]; simp)
                clear HE3
                go_wp2_with fail
                (try go_quiet (fail))
                go_wp2
                go_roundw
                case rel => exact ⟨i + 1, by omega, by go_num, by rw [HE4.out], by obtain ⟨n, e⟩ := HWn.out; first | exact ⟨n, e⟩ | exact ⟨_, by rw [e, World.drewN_drewN]⟩⟩
                case measure => simp [intOf]; omega
            · have hyn' : (yy : Int) ≤ (nn : Int) := by omega
              have hdy : decide (nn < yy) = false := decide_eq_false hyn
              have HS4 := hid ((HS3.out).trans (decide_eq_false (by omega)))
              rw [HS4.out] at HE3
              clear hvs HS3 HS4 hyn
              cases q
              · have HE4 := hid (show errN 1 g (i + 1) = en by rw [HE3.out]; simp)
                clear HE3
                go_wp2_with fail
                (try go_quiet (fail))
                go_wp2
                go_roundw
                case rel => exact ⟨i + 1, by omega, by go_num, by rw [HE4.out], by obtain ⟨n, e⟩ := HWn.out; first | exact ⟨n, e⟩ | exact ⟨_, by rw [e, World.drewN_drewN]⟩⟩
                case measure => simp [intOf]; omega
              · have HE4 := hid (show errN 1 g (i + 1) = en + 1 by rw [HE3.out]; simp)
                clear HE3
                go_wp2_with fail
                (try go_quiet (fail))
                go_wp2
                go_roundw
                case rel => exact ⟨i + 1, by omega, by go_num, by rw [HE4.out]; go_num, by obtain ⟨n, e⟩ := HWn.out; first | exact ⟨n, e⟩ | exact ⟨_, by rw [e, World.drewN_drewN]⟩⟩
                case measure => simp [intOf]; omega
      · obtain rfl : i = g.length := by omega
        have hel := HEl.out g.length
        have HB0 : Hid (Below w.heap.size w wr) := by obtain ⟨n, e⟩ := HWo.out; rw [e]; exact below_drewN (Below.refl _ _) n
        generalize errN 1 g g.length = en at *
        go_wp2
        go_loopw [12, 13] (fun o i w9 => ∃ (k : Nat), k ≤ d ∧ i = .int .i64 k ∧ w9.ownsRow w.heap.size 3 1 o (rightTo g k).length ((rightTo g k).map (Value.int .i64)) ∧ Below w.heap.size w w9) (fun _ i _ => d - (intOf i).toNat)
        case atStart => exact ⟨0, Nat.zero_le _, rfl, ⟨rfl, .inl ⟨rfl, rfl⟩⟩, HB0.out⟩
        case round =>
          obtain ⟨k, hk, rfl, hown, hB⟩ := hrel
          have d0 : wr.cell? ⟨b, off, none⟩ = some (.slice A d c) := by rw [hB.cell (p := ⟨b, off, none⟩) hbl]; exact HC0.out
          have hrl := HRl.out k
          by_cases hkd : k < d
          · have HW2 := hid (HWr.out k hkd wr hB)
            have HT := hid (HRs.out k)
            have hwl := hwle.out k g.length
            generalize rightTo g k = pre at *
            generalize wrongN g k g.length = wn at *
            by_cases hz : wn = 0
            · have HT2 := hid ((HT.out).trans (by rw [if_pos hz] : _ = pre ++ [(k : Int)]))
              have hz9 : ((wn : Int) == 0) = true := by rw [beq_iff_eq]; omega
              clear HT hz
              go_wp2_with fail
              refine HW2.out.mono ?_
              rintro e w4 ⟨m4, rfl, rfl⟩
              have hB4 := below_drewN hB m4
              have hown4 := own_below hown (below_drewN (Below.refl _ _) m4)
              generalize hw4 : wr.drewN m4 = w4 at *
              clear hw4 hown hB
              go_wp2_with (at_builtin; refine wpList_append_own _ rfl _ _ 28 rfl w.heap.size 3 i0 (.int .i64 0) 1 8 Try.underlying28 hinf hz0 hz1 hz2 rfl (by decide) _ _ _ rfl (hown4.alloc _) ⟨w4.heap.size, 0, none⟩ 1 1 [.int .i64 (k : Int)] rfl rfl ?c1 ?c2 ?c3 ?c4 ?c5 ?_)
              case c1 => exact cell_one_new _ _ _
              case c2 => simp [Value.oneCell']
              case c3 => unfold maxLen; omega
              case c4 => omega
              case c5 => have := hB4.size; simp; omega
              intro v' w6 hown2 hgrow _
              have p6 := (hB4.alloc hB4.size _).grown hgrow (by have := hB4.size; simp; omega) (fun q hq => by have := (hown4.lt q hq).1; omega)
              clear hgrow hown4 hB4
              go_wp2
              go_roundw
              case rel => exact ⟨k + 1, by omega, by go_num, by rw [HT2.out]; simpa using hown2, p6⟩
              case measure => simp [intOf]; omega
            · have HT2 := hid ((HT.out).trans (by rw [if_neg hz, List.append_nil] : _ = pre))
              have hz9 : ((wn : Int) == 0) = false := by rw [beq_eq_false_iff_ne]; omega
              clear HT hz
              go_wp2_with fail
              refine HW2.out.mono ?_
              rintro e w4 ⟨m4, rfl, rfl⟩
              have HB4 := hid (below_drewN hB m4)
              have HO4 := hid (own_below hown (below_drewN (Below.refl _ _) m4))
              clear hown hB
              go_wp2
              go_roundw
              case rel => exact ⟨k + 1, by omega, by go_num, by rw [HT2.out]; exact HO4.out, HB4.out⟩
              case measure => simp [intOf]; omega
          · obtain rfl : k = d := by omega
            have hown' : Own wr w.heap.size _ (rightTo g k) := hown
            obtain ⟨R, rc, rfl, hR⟩ := hown'.ints' (by omega) HRb.out
            have HR := hid hR
            have HBw := hid hB
            clear hR hown hown' hB
            by_cases hz : (rightTo g k).length = 0
            · have HE3 := hid ((HE2.out).trans (if_pos hz))
              have hz9 : (((rightTo g k).length : Int) == 0) = true := by rw [beq_iff_eq]; omega
              clear hz
              generalize rightTo g k = pre at *
              go_wp2
              exact bodyPost_ret (v := .tuple #[.slice none 0 0, .int .i64 0, .bool false, .int .i64 0]) (by simp [results, Try.results35, go_sem]) rfl ⟨HBw.out, none, 0, by rw [HE3.out]; rfl, by rw [HE3.out]; exact ⟨by simp, .inl rfl, by simp⟩⟩
            · have HE3 := hid ((HE2.out).trans (if_neg hz))
              have hz9 : (((rightTo g k).length : Int) == 0) = false := by rw [beq_eq_false_iff_ne]; omega
              clear hz
              generalize rightTo g k = pre at *
              go_wp2
              exact bodyPost_ret (v := .tuple #[.slice R pre.length rc, .int .i64 en, .bool true, .int .i64 0]) (by simp [results, Try.results35, go_sem]) rfl ⟨HBw.out, R, rc, by rw [HE3.out], by rw [HE3.out]; exact HR.out⟩
  · have HE2 := hid ((HE.out).trans (if_neg h0))
    have h1 : (gameN g != 0) = true := by simp [h0]
    clear h h0 HE
    generalize gameN g = v at *
    go_enter Try.func35, Try.ntmps35
    go_wp2_with fail
    refine HC.out.mono ?_
    rintro e w1 ⟨rfl, rfl⟩
    go_wp2
    exact bodyPost_ret (v := .tuple #[.slice none 0 0, .int .i64 0, .bool false, .int .i64 v]) (by simp [results, Try.results35, go_sem]) rfl ⟨Below.refl _ _, none, 0, by rw [HE2.out]; rfl, by rw [HE2.out]; exact ⟨by simp, .inl rfl, by simp⟩⟩
end Go.Proofs.Ytfjncmhbpfcdiaa
