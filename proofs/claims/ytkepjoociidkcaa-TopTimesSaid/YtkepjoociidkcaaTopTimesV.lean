/- The theorem TopTimes: its main way. -/
import Derived.Test.YtkepjoociidkcaaTopTimesW
import Derived.Deep.Cut
set_option linter.unusedVariables false
namespace Go.Proofs.Ytkepjoociidkcaa
open Go.RowKit

/-- The boxes of a fact and of what is asked. -/
def TwoBox (W : World) (b : Nat) (f : Fct) (x y z : Int) : Prop := FctAt W b 0 f ∧ AskAt W (b + 1) x y z
theorem TwoBox.below {W W' : World} {b : Nat} {f : Fct} {x y z : Int} (h : TwoBox W b f x y z) (hb : Below W.heap.size W W') : TwoBox W' b f x y z := ⟨h.1.below hb, h.2.below hb⟩
theorem TwoBox.new (w : World) (f : Fct) (x y z : Int) (t u : TypeId) : TwoBox ((w.alloc (.cells #[.int .i64 f.a, .int .i64 f.c, .int .i64 f.f, .int .i64 f.t, .int .i64 f.m] t)).alloc (.cells #[.int .i64 x, .int .i64 y, .int .i64 z] u)) w.heap.size f x y z := by
  refine ⟨(fctAt_new w f t).below (below_new _ _), ?_⟩
  have := askAt_new (w.alloc (.cells #[.int .i64 f.a, .int .i64 f.c, .int .i64 f.f, .int .i64 f.t, .int .i64 f.m] t)) x y z u
  simpa using this
theorem TwoBox.cells {W : World} {b : Nat} {f : Fct} {x y z : Int} (h : TwoBox W b f x y z) : W.cell? ⟨b, 0, none⟩ = some (.int .i64 f.a) ∧ W.cell? ⟨b, 1, none⟩ = some (.int .i64 f.c) ∧ W.cell? ⟨b, 2, none⟩ = some (.int .i64 f.f) ∧ W.cell? ⟨b, 3, none⟩ = some (.int .i64 f.t) ∧ W.cell? ⟨b, 4, none⟩ = some (.int .i64 f.m) ∧
  W.cell? ⟨b + 1, 0, none⟩ = some (.int .i64 x) ∧ W.cell? ⟨b + 1, 1, none⟩ = some (.int .i64 y) ∧ W.cell? ⟨b + 1, 2, none⟩ = some (.int .i64 z) := by
  obtain ⟨⟨h0, h1, h2, h3, h4⟩, h5, h6, h7⟩ := h
  simp only [Nat.zero_add] at h1 h2 h3 h4
  exact ⟨h0, h1, h2, h3, h4, h5, h6, h7⟩
def one4 : Fct := ⟨0, 1, 0, 1, 4⟩
theorem one_at (W : World) (n : Nat) (h : W.heap.size = n) : FactsAt (W.alloc (.cells #[.int .i64 0, .int .i64 1, .int .i64 0, .int .i64 1, .int .i64 4] 24)) (some ⟨n, 0, none⟩) [one4] := by
  subst h
  refine ⟨by simp, .inr ⟨W.heap.size, 0, rfl, fun i hi => ?_⟩⟩
  obtain rfl : i = 0 := by simpa using hi
  exact fctAt_new W one4 24
theorem known_one : knownL [one4] 0 1 0 = (4, 0) := by decide

set_option maxRecDepth 100000 in
set_option maxHeartbeats 8000000 in
theorem topTimes_main (a : Option Addr) (l : List Fct) (cap : Nat) (f : Fct) (x y z : Int) (w : World) (hl : FactsAt w a l) (hcap : l.length ≤ cap) (h200 : l.length ≤ 200)
  (ms us cs : List Fct) (sp ch : List Spn) (m b k g : Int) (hA : addL l f = (ms, 0)) (hK0 : x < f.a → knownL l x y z = knownL ms x y z) (hK1 : knownL ms x y z = (m, g)) (hg : g = 0 ∨ g = 1)
  (hU : untilL ms x = (us, 0)) (hKu : g = 0 → knownL us 1440000 y z = (m, 0)) (hS : g = 0 → spansL ms x y = (sp, 0)) (hin : g = 0 → inL sp z = m)
  (hC : cmpL ms x = (cs, k)) (hC2 : g = 0 → k = 0 → spansL cs 0 y = (sp, 0)) (hB : g = 0 → knownL ms (f.a - 1) y z = (b, 0)) (hD : g = 0 → changedL ms (f.a - 1) x y = (ch, 0)) (hT : g = 0 → thereTo ch z m ch.length = (b != m)) (hfa : 0 ≤ f.a ∧ f.a ≤ 1440000) :
  Calls Try.prog 11 #[.slice a l.length cap, .agg #[.int .i64 f.a, .int .i64 f.c, .int .i64 f.f, .int .i64 f.t, .int .i64 f.m], .agg #[.int .i64 x, .int .i64 y, .int .i64 z]] w (BoolR w true) := by
  have hlen := hl.len
  have HBx := hid (TwoBox.new w f x y z 24 36)
  have hB0 : Below w.heap.size w ((w.alloc (.cells #[.int .i64 f.a, .int .i64 f.c, .int .i64 f.f, .int .i64 f.t, .int .i64 f.m] 24)).alloc (.cells #[.int .i64 x, .int .i64 y, .int .i64 z] 36)) := ((Below.refl w.heap.size w).alloc (Nat.le_refl _) _).alloc (by simp) _
  have HL := hid hl
  have HB0 := hid hB0
  have hd2 : decide ((200 : Int) < (l.length : Int)) = false := by simp; omega
  have HA := hid (fun W (h : FactsAt W a l) => Add_any a l cap f W h hcap)
  have HKl := hid (fun W (h : FactsAt W a l) => Known_any a l cap x y z W h hcap)
  have HKm := hid (fun W A c (h : FactsAt W A ms) (hc : ms.length ≤ c) => Known_any A ms c x y z W h hc)
  have HKu := hid (fun W A c (h : FactsAt W A us) (hc : us.length ≤ c) => Known_any A us c 1440000 y z W h hc)
  have HKb := hid (fun W A c (h : FactsAt W A ms) (hc : ms.length ≤ c) => Known_any A ms c (f.a - 1) y z W h hc)
  have HU := hid (fun W A c (h : FactsAt W A ms) (hc : ms.length ≤ c) => Until_any A ms c x W h hc)
  have HS := hid (fun W A c (h : FactsAt W A ms) (hc : ms.length ≤ c) => Spans_any A ms c x y W h hc)
  have HSc := hid (fun W A c (h : FactsAt W A cs) (hc : cs.length ≤ c) => Spans_any A cs c 0 y W h hc)
  have HC := hid (fun W A c (h : FactsAt W A ms) (hc : ms.length ≤ c) => Compact_any A ms c x W h hc)
  have HD := hid (fun W A c (h : FactsAt W A ms) (hc : ms.length ≤ c) => Changed_any A ms c (f.a - 1) x y W h hc)
  have hml : ms.length ≤ 1000 := by
    have := congrArg (fun p => p.1.length) hA
    dsimp only at this
    rw [← this]
    unfold addL
    split
    · rename_i h
      have := (validE_ok h).1
      split
      · simp; omega
      · simp
    · simp
  rw [hA] at HA
  rw [hK1] at HKm
  have hK1h := hid hK1
  rw [hU] at HU
  rw [hC] at HC
  have HK1 := hid (fun W (h : FactsAt W (some ⟨(w.heap.size + 1) + 1, 0, none⟩) [one4]) => Known_any (some ⟨(w.heap.size + 1) + 1, 0, none⟩) [one4] 1 0 1 0 W h (Nat.le_refl _))
  rw [known_one] at HK1
  have HPs := hid (And.intro hK0 (And.intro hKu (And.intro hS (And.intro hin (And.intro hC2 (And.intro hB (And.intro hD hT)))))))
  have HG := hid hg
  have hfa0 := hfa.1
  have hfa1 := hfa.2
  have hw15 : IntKind.i64.wrap (f.a - 1) = f.a - 1 := IntWalk.i64_in _ (by omega)
  clear hA hK0 hK1 hU hKu hS hin hC hC2 hB hD hT hg hfa hl hB0
  go_enter Try.func11, Try.ntmps11
  go_wp2_with fail
  generalize hW2 : (w.alloc (.cells #[.int .i64 f.a, .int .i64 f.c, .int .i64 f.f, .int .i64 f.t, .int .i64 f.m] 24)).alloc (.cells #[.int .i64 x, .int .i64 y, .int .i64 z] 36) = W2 at *
  have hz2 : W2.heap.size = (w.heap.size + 1) + 1 := by rw [← hW2]; simp
  refine (HK1.out _ (one_at W2 _ hz2)).mono ?_
  rintro e w1 ⟨q1, rfl⟩
  have hb3 := below_new W2 (.cells #[.int .i64 0, .int .i64 1, .int .i64 0, .int .i64 1, .int .i64 4] 24)
  have p1 := (HB0.out.trans (hb3.mono HB0.out.size)).trans (q1.mono (by have := HB0.out.size; simp; omega))
  have X1 := hid ((HBx.out.below hb3).below q1)
  have hs1 := p1.size
  clear hW2 hz2 hb3 q1 HK1 HB0 HBx
  obtain ⟨b0, b1, b2, b3, b4, b5, b6, b7⟩ := X1.out.cells
  go_wp2_with fail
  refine (long5_any _ _ _ _ (by omega)).mono ?_
  rintro e w' ⟨rfl, rfl⟩
  rw [hd2]
  go_wp2_with fail
  refine (HA.out w1 (HL.out.below p1)).mono ?_
  rintro e w2 ⟨q2, A, c, rfl, hc, hO⟩
  dsimp only at hc hO
  have p2 := p1.trans (q2.mono p1.size)
  have X2 := hid (X1.out.below q2)
  have M2 := hid (OwnF.at_ hO (by omega))
  clear hO q2 HA X1 p1 hs1
  clear b0 b1 b2 b3 b4 b5 b6 b7
  obtain ⟨b0, b1, b2, b3, b4, b5, b6, b7⟩ := X2.out.cells
  go_upto_if 60 with fail
  go_cut [] from 31 (fun wx => Hid (TwoBox wx w.heap.size f x y z) ∧ Hid (FactsAt wx A ms) ∧ Below w.heap.size w wx)
  case first =>
    by_cases hlt0 : x < f.a
    · have h0 := HPs.out.1 hlt0
      rw [h0, hK1h.out] at HKl
      clear h0
      go_wp2_with fail
      refine (HKl.out w2 (HL.out.below p2)).mono ?_
      rintro e w3 ⟨q3, rfl⟩
      have p3 := p2.trans (q3.mono p2.size)
      have X3 := hid (X2.out.below q3)
      have M3 := hid (M2.out.below q3)
      clear b0 b1 b2 b3 b4 b5 b6 b7 q3 p2 X2 M2
      obtain ⟨b0, b1, b2, b3, b4, b5, b6, b7⟩ := X3.out.cells
      go_wp2_with fail
      refine (HKm.out w3 A c M3.out hc).mono ?_
      rintro e w4 ⟨q4, rfl⟩
      have p4 := p3.trans (q4.mono p3.size)
      have X4 := hid (X3.out.below q4)
      have M4 := hid (M3.out.below q4)
      clear b0 b1 b2 b3 b4 b5 b6 b7 q4 p3 X3 M3
      obtain ⟨b0, b1, b2, b3, b4, b5, b6, b7⟩ := X4.out.cells
      go_wp2
      go_meet
      case rel => exact ⟨X4, M4, p4⟩
    · go_wp2
      go_meet
      case rel => exact ⟨X2, M2, p2⟩
  case rest =>
    clear X2 M2 p2 b0 b1 b2 b3 b4 b5 b6 b7
    obtain ⟨X5, M5, p5⟩ := hcut
    obtain ⟨b0, b1, b2, b3, b4, b5, b6, b7⟩ := X5.out.cells
    go_wp2_with fail
    refine (HKm.out wc A c M5.out hc).mono ?_
    rintro e w6 ⟨q6, rfl⟩
    have p6 := p5.trans (q6.mono p5.size)
    have X6 := hid (X5.out.below q6)
    have M6 := hid (M5.out.below q6)
    clear b0 b1 b2 b3 b4 b5 b6 b7 q6 p5 X5 M5
    obtain ⟨b0, b1, b2, b3, b4, b5, b6, b7⟩ := X6.out.cells
    rcases HG.out with hg0 | hg1
    · subst hg0
      obtain ⟨g1, g2, g3, g4, g5, g6, g7⟩ := HPs.out.2
      have g1 := g1 rfl
      have g2 := g2 rfl
      have hin := hid (g3 rfl)
      have g5 := g5 rfl
      have g6 := g6 rfl
      have hThere := hid (g7 rfl)
      have hC2 := hid (g4 rfl)
      rw [g1] at HKu
      rw [g2] at HS
      rw [g5] at HKb
      rw [g6] at HD
      clear g1 g2 g3 g4 g5 g6 g7 HPs HG
      go_wp2_with fail
      refine (HU.out w6 A c M6.out hc).mono ?_
      rintro e w7 ⟨q7, B, bc, rfl, hbc, hB0⟩
      have p7 := p6.trans (q7.mono p6.size)
      have X7 := hid (X6.out.below q7)
      have M7 := hid (M6.out.below q7)
      clear b0 b1 b2 b3 b4 b5 b6 b7 q7 p6 X6 M6
      obtain ⟨b0, b1, b2, b3, b4, b5, b6, b7⟩ := X7.out.cells
      have U7 := hid hB0
      have hul := hB0.len
      clear hB0
      go_wp2_with fail
      refine (HKu.out w7 B bc U7.out hbc).mono ?_
      rintro e w8 ⟨q8, rfl⟩
      have p8 := p7.trans (q8.mono p7.size)
      have X8 := hid (X7.out.below q8)
      have M8 := hid (M7.out.below q8)
      clear b0 b1 b2 b3 b4 b5 b6 b7 q8 p7 X7 M7
      obtain ⟨b0, b1, b2, b3, b4, b5, b6, b7⟩ := X8.out.cells
      go_wp2_with fail
      refine (HS.out w8 A c M8.out hc).mono ?_
      rintro e w9 ⟨q9, C, cc, rfl, hC0⟩
      have p9 := p8.trans (q9.mono p8.size)
      have X9 := hid (X8.out.below q9)
      have M9 := hid (M8.out.below q9)
      clear b0 b1 b2 b3 b4 b5 b6 b7 q9 p8 X8 M8
      obtain ⟨b0, b1, b2, b3, b4, b5, b6, b7⟩ := X9.out.cells
      have S9 := hid hC0
      have hsl := hC0.len
      clear hC0
      have HIn := hid (in_any C sp cc z w9 S9.out)
      rw [hin.out] at HIn
      go_wp2_with fail
      refine HIn.out.mono ?_
      rintro e w' ⟨rfl, rfl⟩
      clear HIn
      go_wp2_with fail
      refine (HC.out w9 A c M9.out hc).mono ?_
      rintro e w10 ⟨q10, E, ec, rfl, hec, hE0⟩
      have p10 := p9.trans (q10.mono p9.size)
      have X10 := hid (X9.out.below q10)
      have M10 := hid (M9.out.below q10)
      have S10 := hid (S9.out.below q10)
      clear b0 b1 b2 b3 b4 b5 b6 b7 q10 p9 X9 M9
      obtain ⟨b0, b1, b2, b3, b4, b5, b6, b7⟩ := X10.out.cells
      have C10 := hid hE0
      have hcl := hE0.len
      clear hE0 U7 S9
      go_upto_if 160 with fail
      go_cut [] from 31 (fun wx => Hid (TwoBox wx w.heap.size f x y z) ∧ Hid (FactsAt wx A ms) ∧ Below w.heap.size w wx)
      case first =>
        by_cases hk : k = 0
        · have hC3 := hC2.out hk
          subst hk
          rw [hC3] at HSc
          clear hC3
          go_wp2_with fail
          refine (HSc.out w10 E ec C10.out hec).mono ?_
          rintro e w11 ⟨q11, F, fc, rfl, hF0⟩
          have p11 := p10.trans (q11.mono p10.size)
          have X11 := hid (X10.out.below q11)
          have M11 := hid (M10.out.below q11)
          have S11 := hid (S10.out.below q11)
          clear b0 b1 b2 b3 b4 b5 b6 b7 q11 p10 X10 M10
          obtain ⟨b0, b1, b2, b3, b4, b5, b6, b7⟩ := X11.out.cells
          have HSm := hid (topSame_any F C sp fc cc w11 hF0 S11.out)
          clear hF0
          go_wp2_with fail
          refine HSm.out.mono ?_
          rintro e w' ⟨n8, rfl, rfl⟩
          have p12 := below_drewN p11 n8
          have X12 := hid (X11.out.below (below_drewN (Below.refl _ _) n8))
          have M12 := hid (M11.out.below (below_drewN (Below.refl _ _) n8))
          go_wp2
          go_meet
          case rel => exact ⟨X12, M12, p12⟩
        · have hk' : (k == 0) = false := by simp [hk]
          clear hk
          go_wp2
          go_meet
          case rel => exact ⟨X10, M10, p10⟩
      case rest =>
        clear X10 M10 p10 b0 b1 b2 b3 b4 b5 b6 b7 S10 C10
        obtain ⟨X13, M13, p13⟩ := hcut
        obtain ⟨b0, b1, b2, b3, b4, b5, b6, b7⟩ := X13.out.cells
        go_wp2_with fail
        refine (HKb.out wc A c M13.out hc).mono ?_
        rintro e w14 ⟨q14, rfl⟩
        have p14 := p13.trans (q14.mono p13.size)
        have X14 := hid (X13.out.below q14)
        have M14 := hid (M13.out.below q14)
        clear b0 b1 b2 b3 b4 b5 b6 b7 q14 p13 X13 M13
        obtain ⟨b0, b1, b2, b3, b4, b5, b6, b7⟩ := X14.out.cells
        go_wp2_with fail
        refine (HD.out w14 A c M14.out hc).mono ?_
        rintro e w15 ⟨q15, D, dc, rfl, hD0⟩
        have p15 := p14.trans (q15.mono p14.size)
        have X15 := hid (X14.out.below q15)
        have M15 := hid (M14.out.below q15)
        clear b0 b1 b2 b3 b4 b5 b6 b7 q15 p14 X14 M14
        obtain ⟨b0, b1, b2, b3, b4, b5, b6, b7⟩ := X15.out.cells
        have HDd := hid hD0
        have hdl := hD0.len
        clear hD0 HL HKl HKm HKu HKb HU HS HSc HC HD M15
        generalize w15 = wq at *
        go_wp2
        go_loopw [29, 30] (fun t i wr => ∃ (k : Nat) (n : Nat), k ≤ ch.length ∧ i = .int .i64 k ∧ t = .bool (thereTo ch z m k) ∧ Hid (wr = wq.drewN n)) (fun _ i _ => ch.length - (intOf i).toNat)
        case atStart => exact ⟨0, 0, Nat.zero_le _, rfl, rfl, rfl⟩
        case round =>
          obtain ⟨j, n, hj, rfl, rfl, hwr⟩ := hrel
          have HDw := hid (show SpnsAt wr D ch by rw [hwr.out]; exact HDd.out.drew n)
          have hXw := (show TwoBox wr w.heap.size f x y z by rw [hwr.out]; exact X15.out.below (below_drewN (Below.refl _ _) n))
          clear b0 b1 b2 b3 b4 b5 b6 b7
          obtain ⟨b0, b1, b2, b3, b4, b5, b6, b7⟩ := hXw.cells
          by_cases hlt : j < ch.length
          · rcases HDw.out.at_ with e | ⟨b9, off, rfl, hcc⟩
            · rw [e] at hlt; simp at hlt
            obtain ⟨c0, c1, c2⟩ := hcc j hlt
            have i0 : (0 : Int) ≤ (j : Int) := by omega
            have i1 : (j : Int) < (ch.length : Int) := by omega
            have HT := hid (show thereTo ch z m (j + 1) = (thereTo ch z m j || (decide ((sAt ch j).f ≤ z) && (decide (z < (sAt ch j).t) && ((sAt ch j).m == m)))) from rfl)
            clear hcc hXw b0 b1 b2 b3 b4
            generalize sAt ch j = v at *
            cases ht : thereTo ch z m j with
            | true =>
              have HTx := hid (show thereTo ch z m (j + 1) = true by rw [HT.out, ht]; rfl)
              clear ht HT
              go_wp2
              go_quiet (fail)
              go_wp2
              go_roundw
              case rel => exact ⟨j + 1, _, by omega, by go_num, by rw [HTx.out], by unfold Hid; rw [hwr.out, World.drewN_drewN]⟩
              case measure => simp [intOf]; omega
            | false =>
              by_cases h1 : v.f ≤ z
              · by_cases h2 : z < v.t
                · have HTx := hid (show thereTo ch z m (j + 1) = (v.m == m) by rw [HT.out, ht, decide_eq_true h1, decide_eq_true h2]; rfl)
                  clear ht HT
                  go_wp2
                  go_quiet (fail)
                  go_wp2
                  go_roundw
                  case rel => exact ⟨j + 1, _, by omega, by go_num, by rw [HTx.out], by unfold Hid; rw [hwr.out, World.drewN_drewN]⟩
                  case measure => simp [intOf]; omega
                · have HTx := hid (show thereTo ch z m (j + 1) = false by rw [HT.out, ht, decide_eq_true h1, decide_eq_false h2]; rfl)
                  have hd : decide (z < v.t) = false := decide_eq_false h2
                  have hd2 : (z < v.t) = False := by simp; omega
                  clear ht HT
                  go_wp2
                  go_quiet (fail)
                  go_wp2
                  go_roundw
                  case rel => exact ⟨j + 1, _, by omega, by go_num, by rw [HTx.out], by unfold Hid; rw [hwr.out, World.drewN_drewN]⟩
                  case measure => simp [intOf]; omega
              · have HTx := hid (show thereTo ch z m (j + 1) = false by rw [HT.out, ht, decide_eq_false h1]; rfl)
                have hd : decide (v.f ≤ z) = false := decide_eq_false h1
                have hd2 : (v.f ≤ z) = False := by simp; omega
                clear ht HT
                go_wp2
                go_quiet (fail)
                go_wp2
                go_roundw
                case rel => exact ⟨j + 1, _, by omega, by go_num, by rw [HTx.out], by unfold Hid; rw [hwr.out, World.drewN_drewN]⟩
                case measure => simp [intOf]; omega
          · obtain rfl : j = ch.length := by omega
            rw [hThere.out]
            go_wp2
            go_ret
            exact ⟨by rw [hwr.out]; exact below_drewN p15 n, by simp⟩
    · subst hg1
      go_wp2
      go_ret
      exact ⟨p6, rfl⟩
end Go.Proofs.Ytkepjoociidkcaa
