/- The document's own Weights and BestAdviser. -/
import Derived.Test.YtfjncmhbpfcdiaaGuRA
import Derived.Test.YtfjncmhbpfcdiaaGuH
set_option linter.unusedVariables false
namespace Go.Proofs.Ytfjncmhbpfcdiaa
open Go.RowKit

set_option maxRecDepth 100000 in
set_option maxHeartbeats 2000000 in
theorem grWeights_any (a : Option Addr) (g : List Rnd) (cap : Nat) (w : World) (h : GameAt w a g) : Calls Try.prog 19 #[.slice a g.length cap] w (IntsP w (wtsV g)) := by
  obtain ⟨i0, hinf, hz0, hz1, hz2⟩ := info_parts int_info
  have hlen := h.len
  have HC := hid (grRounds_any a g cap w h)
  have HE := hid (show wtsV g = if gameN g = 0 then (wtL g (advs g), 0) else ([], gameN g) from rfl)
  by_cases h0 : gameN g = 0
  · have HE2 := hid ((HE.out).trans (if_pos h0))
    obtain ⟨hg0, hpos⟩ := gameN_ok h0
    have hg := gameE_ok hg0
    have had := hg.adv 0 hpos
    rw [h0] at HC
    rcases h.at_ with e | ⟨b, off, rfl, hc⟩
    · rw [e] at hpos; simp at hpos
    obtain ⟨A, c, c0, _, s0⟩ := hc 0 hpos
    rw [Nat.zero_mul, Nat.add_zero, had.1] at c0
    have g0' : (0 : Int) < (g.length : Int) := by omega
    have HC0 := hid c0
    have HWr := hid (fun (n : Nat) (hn : n < advs g) W (hb : Below w.heap.size w W) => grWrong_any (some ⟨b, off, none⟩) g cap n W (h.below hb) hg.len (fun i hi => by rw [(hg.adv i hi).1]; exact hn))
    have HWt := hid (fun x W => grWeight_any (wrongN g x g.length) (Nat.le_trans (wrongN_le g x g.length) hg.len) W)
    have HF := hid (fun x => wtN_full g x g.length hg.len)
    have HLt := hid (fun x => wtN_le 16777216 g x g.length)
    have hl24 := hg.len
    have a1 : 1 ≤ advs g := had.2.1
    have a8 : advs g ≤ 8 := had.2.2
    have HL := hid (wtL_len g)
    have HBd := hid (wtL_bd g (advs g))
    have HNx := hid (show ∀ k, wtL g (k + 1) = wtL g k ++ [(wtN 16777216 g k g.length : Int)] from fun k => rfl)
    generalize advs g = d at *
    have hbl := cell_lt c0
    dsimp only at hbl
    clear h h0 hg hg0 had hc s0 c0 HE
    go_enter Try.func19, Try.ntmps19
    go_wp2_with fail
    refine HC.out.mono ?_
    rintro e w1 ⟨rfl, rfl⟩
    go_wp2
    go_loopw [5, 6] (fun o i wr => ∃ (k : Nat), k ≤ d ∧ i = .int .i64 k ∧ wr.ownsRow w.heap.size 3 1 o (wtL g k).length ((wtL g k).map (Value.int .i64)) ∧ Below w.heap.size w wr) (fun _ i _ => d - (intOf i).toNat)
    case atStart => exact ⟨0, Nat.zero_le _, rfl, ⟨rfl, .inl ⟨rfl, rfl⟩⟩, Below.refl _ _⟩
    case round =>
      obtain ⟨k, hk, rfl, hown, hB⟩ := hrel
      have c0 : wr.cell? ⟨b, off, none⟩ = some (.slice A d c) := by rw [hB.cell (p := ⟨b, off, none⟩) hbl]; exact HC0.out
      by_cases hlt : k < d
      · have HW2 := hid (HWr.out k hlt wr hB)
        have HWt2 := hid (fun W => HWt.out k W)
        have HF2 := hid (HF.out k)
        rw [← HF2.out] at HWt2
        have HT := hid (HNx.out k)
        have hvl := HLt.out k
        have hpl := Nat.le_of_eq (HL.out k)
        generalize wtN 16777216 g k g.length = v at *
        generalize wrongN g k g.length = u at *
        generalize wtL g k = pre at *
        go_wp2_with fail
        refine HW2.out.mono ?_
        rintro e w4 ⟨m4, rfl, rfl⟩
        have hB4 := below_drewN hB m4
        have hown4 := own_below hown (below_drewN (Below.refl _ _) m4)
        go_wp2_with fail
        refine (HWt2.out _).mono ?_
        rintro e w5 ⟨rfl, rfl⟩
        generalize hw4 : wr.drewN m4 = w4 at *
        clear hw4 hown hB
        go_wp2_with (at_builtin; refine wpList_append_own _ rfl _ _ 28 rfl w.heap.size 3 i0 (.int .i64 0) 1 8 Try.underlying28 hinf hz0 hz1 hz2 rfl (by decide) _ _ _ rfl (hown4.alloc _) ⟨w4.heap.size, 0, none⟩ 1 1 [.int .i64 (v : Int)] rfl rfl ?c1 ?c2 ?c3 ?c4 ?c5 ?_)
        case c1 => exact cell_one_new _ _ _
        case c2 => simp [Value.oneCell']
        case c3 => unfold maxLen; omega
        case c4 => omega
        case c5 => have := hB4.size; simp; omega
        intro v' w6 hown2 hgrow _
        have p6 := (hB4.alloc hB4.size _).grown hgrow (by have := hB4.size; simp; omega) (fun q hq => by have := (hown4.lt q hq).1; omega)
        clear hgrow hown4 hB4
        go_wp2
        go_roundw
        case rel => exact ⟨k + 1, by omega, by go_num, by rw [HT.out]; simpa using hown2, p6⟩
        case measure => simp [intOf]; omega
      · obtain rfl : k = d := by omega
        have hown' : Own wr w.heap.size _ (wtL g k) := hown
        have hl := HL.out k
        obtain ⟨R, rc, rfl, hR⟩ := hown'.ints' (by omega) HBd.out
        have HR := hid hR
        clear hR hown hown'
        rw [hl]
        go_wp2
        go_ret2
        exact ⟨hB, R, rc, by rw [HE2.out]; dsimp only; rw [hl]; rfl, by rw [HE2.out]; exact HR.out⟩
  · have HE2 := hid ((HE.out).trans (if_neg h0))
    have h1 : (gameN g != 0) = true := by simp [h0]
    clear h h0 HE
    generalize gameN g = v at *
    go_enter Try.func19, Try.ntmps19
    go_wp2_with fail
    refine HC.out.mono ?_
    rintro e w1 ⟨rfl, rfl⟩
    go_wp2
    go_ret2
    exact ⟨Below.refl _ _, none, 0, by rw [HE2.out]; rfl, by rw [HE2.out]; exact ⟨by simp, .inl rfl, by simp⟩⟩

set_option maxRecDepth 100000 in
set_option maxHeartbeats 2000000 in
theorem grBest_any (a : Option Addr) (g : List Rnd) (cap : Nat) (w : World) (h : GameAt w a g) : Calls Try.prog 21 #[.slice a g.length cap] w (DrwT w (bestV g)) := by
  have hlen := h.len
  have HC := hid (grRounds_any a g cap w h)
  have HE := hid (show bestV g = if gameN g = 0 then ((bestTo g (advs g) : Int), (wrongN g (bestTo g (advs g)) g.length : Int), 0) else (0, 0, gameN g) from rfl)
  by_cases h0 : gameN g = 0
  · have HE2 := hid ((HE.out).trans (if_pos h0))
    obtain ⟨hg0, hpos⟩ := gameN_ok h0
    have hg := gameE_ok hg0
    have had := hg.adv 0 hpos
    rw [h0] at HC
    rcases h.at_ with e | ⟨b, off, rfl, hc⟩
    · rw [e] at hpos; simp at hpos
    obtain ⟨A, c, c0, _, s0⟩ := hc 0 hpos
    rw [Nat.zero_mul, Nat.add_zero, had.1] at c0
    have g0' : (0 : Int) < (g.length : Int) := by omega
    have HC0 := hid c0
    have HWr := hid (fun (n : Nat) (hn : n < advs g) m => grWrong_any (some ⟨b, off, none⟩) g cap n (w.drewN m) (h.drew m) hg.len (fun i hi => by rw [(hg.adv i hi).1]; exact hn))
    have HL := hid (fun n => wrongN_le g n g.length)
    have hl24 := hg.len
    have a1 : 1 ≤ advs g := had.2.1
    have a8 : advs g ≤ 8 := had.2.2
    have HB := hid (fun n => bestTo_le g n)
    have HBs := hid (show ∀ n, bestTo g (n + 1) = if wrongN g n g.length < wrongN g (bestTo g n) g.length then n else bestTo g n from fun n => rfl)
    have HB1 := hid (bestTo_one g)
    generalize advs g = d at *
    clear h h0 hg hg0 had hc s0 c0 HE
    go_enter Try.func21, Try.ntmps21
    go_wp2_with fail
    refine HC.out.mono ?_
    rintro e w1 ⟨rfl, rfl⟩
    go_wp2
    go_loopw [6, 7] (fun t i wr => ∃ (k : Nat), 1 ≤ k ∧ k ≤ d ∧ i = .int .i64 k ∧ t = .int .i64 (bestTo g k) ∧ Hid (∃ n, wr = w.drewN n)) (fun _ i _ => d - (intOf i).toNat)
    case atStart => exact ⟨1, Nat.le_refl _, a1, rfl, by rw [HB1.out]; rfl, ⟨0, rfl⟩⟩
    case round =>
      obtain ⟨k, hk1, hk, rfl, rfl, HWe⟩ := hrel
      obtain ⟨n9, hn9⟩ := HWe.out
      have c0 : wr.cell? ⟨b, off, none⟩ = some (.slice A d c) := by rw [hn9]; exact HC0.out
      have hbk : bestTo g k < k := HB.out k (by omega)
      have HW3 := hid (fun m => (show Calls Try.prog 47 #[.slice (some ⟨b, off, none⟩) g.length cap, .int .i64 (bestTo g k : Int)] (wr.drewN m) (DrwI (wr.drewN m) (wrongN g (bestTo g k) g.length)) by rw [hn9, World.drewN_drewN]; exact HWr.out (bestTo g k) (by omega) (n9 + m)))
      by_cases hlt : k < d
      · have HW2 := hid (show Calls Try.prog 47 #[.slice (some ⟨b, off, none⟩) g.length cap, .int .i64 (k : Int)] wr (DrwI wr (wrongN g k g.length)) by rw [hn9]; exact HWr.out k hlt n9)
        have HN := hid (HBs.out k)
        have hv1 := HL.out k
        have hv2 := HL.out (bestTo g k)
        clear hn9 n9
        generalize hbg : bestTo g k = bk at *
        generalize wrongN g k g.length = v at *
        generalize wrongN g bk g.length = u at *
        clear hbg
        by_cases hvu : v < u
        · have HN2 := hid ((HN.out).trans (if_pos hvu))
          clear HN
          go_wp2_with fail
          refine HW2.out.mono ?_
          rintro e w4 ⟨m4, rfl, rfl⟩
          go_wp2_with fail
          refine (HW3.out m4).mono ?_
          rintro e w5 ⟨m5, rfl, rfl⟩
          go_wp2
          go_roundw
          case rel => exact ⟨k + 1, by omega, by omega, by go_num, by rw [HN2.out], by obtain ⟨n, e⟩ := HWe.out; exact ⟨n + (m4 + m5), by rw [e]; simp [World.drewN_drewN]⟩⟩
          case measure => simp [intOf]; omega
        · have HN2 := hid ((HN.out).trans (if_neg hvu))
          clear HN
          go_wp2_with fail
          refine HW2.out.mono ?_
          rintro e w4 ⟨m4, rfl, rfl⟩
          go_wp2_with fail
          refine (HW3.out m4).mono ?_
          rintro e w5 ⟨m5, rfl, rfl⟩
          go_wp2
          go_roundw
          case rel => exact ⟨k + 1, by omega, by omega, by go_num, by rw [HN2.out], by obtain ⟨n, e⟩ := HWe.out; exact ⟨n + (m4 + m5), by rw [e]; simp [World.drewN_drewN]⟩⟩
          case measure => simp [intOf]; omega
      · obtain rfl : k = d := by omega
        have HW4 := hid (HW3.out 0)
        have hv2 := HL.out (bestTo g k)
        clear hn9 n9 HW3
        generalize hbg : bestTo g k = bk at *
        generalize wrongN g bk g.length = u at *
        clear hbg
        go_wp2_with fail
        refine HW4.out.mono ?_
        rintro e w5 ⟨m5, rfl, rfl⟩
        go_wp2
        exact bodyPost_ret (v := .tuple #[.int .i64 bk, .int .i64 u, .int .i64 0]) (by simp [results, Try.results21, go_sem]) rfl (by obtain ⟨n, e⟩ := HWe.out; exact ⟨n + m5, by rw [e]; simp [World.drewN_drewN], by rw [HE2.out]⟩)
  · have HE2 := hid ((HE.out).trans (if_neg h0))
    have h1 : (gameN g != 0) = true := by simp [h0]
    clear h h0 HE
    generalize gameN g = v at *
    go_enter Try.func21, Try.ntmps21
    go_wp2_with fail
    refine HC.out.mono ?_
    rintro e w1 ⟨rfl, rfl⟩
    go_wp2
    exact bodyPost_ret (v := .tuple #[.int .i64 0, .int .i64 0, .int .i64 v]) (by simp [results, Try.results21, go_sem]) rfl ⟨0, rfl, by rw [HE2.out]⟩
end Go.Proofs.Ytfjncmhbpfcdiaa
