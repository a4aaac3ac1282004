/- The walk of the law GuessPrefixes. -/
import Derived.Test.YtfjncmhbpfcdiaaGuF
import Derived.Test.YtfjncmhbpfcdiaaGuLg
import Derived.Test.YtfjncmhbpfcdiaaGuCopy
set_option linter.unusedVariables false
namespace Go.Proofs.Ytfjncmhbpfcdiaa
open Go.RowKit

theorem gameE_len {g : List Rnd} (h : gameE g = 0) : g.length ≤ 24 := (gameE_ok h).len
theorem wts_ok6 {g : List Rnd} (h : gameE g = 0) (hp : 0 < g.length) : wtsV g = (wtL g (advs g), 0) := if_pos (gameN_of h hp)
theorem said_ok6 {g : List Rnd} (h : gameE g = 0) : saidV g = (saidL 16777216 g g.length, 0) := if_pos h
theorem said_no6 {g : List Rnd} (h : gameE g ≠ 0) : saidV g = ([], gameE g) := if_neg h
/-- What the office says behind a beginning is what it said. -/
theorem say_front {g : List Rnd} (h : gameE g = 0) (k : Nat) (hk : k < g.length) : sayV (g.take k) (rAt g k).1 = (saidN 16777216 g k, 0) := by
  have hg := gameE_ok h
  have ht := (hg.take k (Nat.le_of_lt hk)).e
  have had := hg.adv k hk
  have hlk : (g.take k).length = k := by simp; omega
  have hs : sayE (g.take k) (rAt g k).1 = 0 := by
    unfold sayE
    rw [if_pos ht, if_pos ⟨by omega, by omega, fun hz => by rw [hlk] at hz; rw [advs_take g k hz, had.1]⟩]
  unfold sayV
  rw [if_pos hs, hlk, sayN_take 16777216 g _ k k (Nat.le_refl _)]
  rfl
theorem u64_tmod (x : Int) (n : Nat) (hn : 0 < n) (hn2 : n ≤ 24) : ∃ k : Nat, k < n ∧ (IntKind.u64.wrap x).tmod (n : Int) = (k : Int) := by
  have h0 : 0 ≤ IntKind.u64.wrap x := by
    simp only [IntKind.wrap, IntKind.bits, IntKind.signed]
    simp
    omega
  have h1 := Int.tmod_nonneg (n : Int) h0
  have h2 := Int.tmod_lt_of_pos (IntKind.u64.wrap x) (show (0 : Int) < (n : Int) by omega)
  exact ⟨((IntKind.u64.wrap x).tmod (n : Int)).toNat, by omega, by omega⟩
theorem wts_front {g : List Rnd} (h : gameE g = 0) (k : Nat) (hk : k ≤ g.length) (hp : 0 < k) : wtsV (g.take k) = (wtL (g.take k) (advs g), 0) := by
  have hg := gameE_ok h
  have hlk : (g.take k).length = k := by simp; omega
  rw [wts_ok6 (hg.take k hk).e (by omega), advs_take g k hp]
theorem wt_falls (g : List Rnd) (j k n : Nat) (h : k ≤ n) : wtN 16777216 g j n ≤ wtN 16777216 g j k := by
  unfold wtN
  exact Nat.div_le_div_left (Nat.pow_le_pow_right (by omega) (wrongN_mono g j h)) (Nat.pow_pos (by omega))
set_option maxRecDepth 100000 in
set_option maxHeartbeats 4000000 in
theorem guessPrefixes_walk (a : Option Addr) (g : List Rnd) (cap : Nat) (x : Int) (w : World) (h : GameRaw w a g) (hcap : g.length ≤ cap) (bx : -9223372036854775808 ≤ x ∧ x ≤ 9223372036854775807) :
  Calls Try.prog 7 #[.slice a g.length cap, .int .i64 x] w (BoolR w true) := by
  have hlen := h.1
  have HL := hid (long6_any a g cap w h)
  cases hl : longG g with
  | true =>
    rw [hl] at HL
    clear h hl
    go_enter Try.func7, Try.ntmps7
    go_wp2_with fail
    refine HL.out.mono ?_
    rintro e w1 ⟨rfl, rfl⟩
    go_wp2_with fail
    refine (known6_any _).mono ?_
    rintro e w2 ⟨hb, rfl⟩
    go_wp2
    go_ret
    exact ⟨hb, rfl⟩
  | false =>
    rw [hl] at HL
    have hG := h.game hl
    by_cases hz : g.length = 0
    · have hz' : ((g.length : Int) == 0) = true := by rw [beq_iff_eq]; omega
      clear h hl hG hz
      go_enter Try.func7, Try.ntmps7
      go_wp2_with fail
      refine HL.out.mono ?_
      rintro e w1 ⟨rfl, rfl⟩
      go_wp2_with fail
      refine (known6_any _).mono ?_
      rintro e w2 ⟨hb, rfl⟩
      go_wp2
      go_ret
      exact ⟨hb, rfl⟩
    · have hz' : ((g.length : Int) == 0) = false := by rw [beq_eq_false_iff_ne]; omega
      have H1 := hid (gSaid_any a g cap w hG)
      by_cases h0 : gameE g = 0
      · rw [said_ok6 h0] at H1
        have hg := gameE_ok h0
        have hl24 := hg.len
        have hpos : 0 < g.length := by omega
        have HG := hid hG
        have HOk := hid hg
        have HE0 := hid h0
        have HSl := hid (saidL_len 16777216 g g.length)
        have HSa := hid (fun k hk => saidL_at 16777216 g g.length k hk)
        have hp1 : (1 : Int) ≤ (g.length : Int) := by omega
        obtain ⟨i0, hinf, hz0, hz1, hz2⟩ := info_parts round_info
        obtain ⟨k, hk, hku⟩ := u64_tmod x g.length hpos hl24
        rcases hG.at_ with e | ⟨b, off, rfl, hc⟩
        · rw [e] at hpos; simp at hpos
        obtain ⟨A, c, c0, _, s0⟩ := hc k hk
        have hbl := cell_lt c0
        dsimp only at hbl
        have HC0 := hid c0
        have HM := hid s0
        have had := hg.adv k hk
        have hrl : (rAt g k).1.length ≤ 8 := by omega
        have HCs := hid (fun j (hj : j < k * 2) => game_cells hc j (by omega))
        have HCp := hid (fun (W V : World) (v : Value) (hown : V.ownsRow W.heap.size 47 2 v k (cellsOf w b off (k * 2))) (hb : Below w.heap.size w V) => game_copied hG k (Nat.le_of_lt hk) rfl hc hown hb)
        have HSf := hid (say_front h0 k hk)
        have HWf := hid (fun hp => wts_front h0 k (Nat.le_of_lt hk) hp)
        have HWg := hid (wts_ok6 h0 hpos)
        have HFl := hid (fun j => wt_falls g j k g.length (Nat.le_of_lt hk))
        have HWk := hid (fun j => wtN_take 16777216 g j k k (Nat.le_refl _))
        have hlk : (g.take k).length = k := by simp; omega
        have HLk := hid hlk
        have ha1 := had.2.1
        have ha8 := had.2.2
        have HL1 := hid (fun (g : List Rnd) n => wtL_len g n)
        have HAt1 := hid (fun (g : List Rnd) n i hi => wtL_at g n i hi)
        have HBs1 := hid (fun (g : List Rnd) n => wtL_bd g n)
        have hks : (k : Int) < (g.length : Int) := by omega
        have hkc : (k : Int) ≤ (cap : Int) := by omega
        have hkc2 : k ≤ cap := by omega
        have HKU := hid hku
        clear h hl hG h0 hg hz hc s0 c0 had hlk
        go_enter Try.func7, Try.ntmps7
        go_wp2_with fail
        refine HL.out.mono ?_
        rintro e w1 ⟨rfl, rfl⟩
        go_wp2_with fail
        refine H1.out.mono ?_
        rintro e w1 ⟨q1, A1, c1, rfl, i1⟩
        have P1 := hid q1
        have I1 := hid i1
        have hz1w : w.heap.size ≤ w1.heap.size := q1.size
        clear q1 i1
        dsimp only
        rw [HSl.out]
        have HNw := hid (news_game (w := w) k HCs.out (W := w1.alloc (.cells #[] 47)) (fun j hj => by rw [(P1.out.alloc P1.out.size _).cell (p := ⟨b, off + j, none⟩) hbl]))
        have HOn := hid (ones_game (w := w) k HCs.out)
        have hcl := cellsOf_len w b off (k * 2)
        have HCl := hid hcl
        have HE := hid (World.ownsRow_lit (base := w1.heap.size) (e := 47) (size := 2) w1 #[] 0 (Nat.le_refl _) (by decide) rfl)
        clear hcl
        go_wp2_with (at_builtin; (refine wpList_append_src rfl _ _ 22 rfl w1.heap.size 47 i0 (.agg #[.slice none 0 0, .bool false]) 2 32 Try.underlying22 hinf hz0 hz1 hz2 rfl (by decide) _ 0 [] rfl HE.out _ _ _ (cellsOf w b off (k * 2)) rfl HCl.out HNw.out HOn.out (by unfold maxLen; omega) (by omega) (by simp) ?_))
        intro v' w2 hown2 hgrow
        have p12 := ((Below.refl w1.heap.size w1).alloc (Nat.le_refl _) _).grown hgrow (by simp) (fun q hq => by simp [Value.ownBlock] at hq; omega)
        have p2 := P1.out.trans (p12.mono hz1w)
        obtain ⟨R, rc, rfl, hrc, hGt⟩ := HCp.out w1 w2 v' hown2 p2
        have HSy := hid (gSayP_any R A (g.take k) (rAt g k).1 rc c w2 hGt (HM.out.below p2))
        rw [HLk.out, HSf.out] at HSy
        have HGt := hid hGt
        have P2 := hid p2
        have I2 := hid (I1.out.below p12)
        have c2 : w2.cell? ⟨b, off + k * 2, none⟩ = some (.slice A (rAt g k).1.length c) := by rw [p2.cell (p := ⟨b, off + k * 2, none⟩) hbl]; exact HC0.out
        have HSak := hid (HSa.out k hk)
        generalize (rAt g k).1 = r at *
        generalize saidN 16777216 g k = sd at *
        clear hown2 hgrow p12 p2 hGt HNw HOn HCl HE HCs HCp HSf HSa
        go_wp2_with fail
        refine HSy.out.mono ?_
        rintro e w3 ⟨q3, rfl⟩
        have P3 := hid (P2.out.trans (q3.mono P2.out.size))
        have I3 := hid (I2.out.below q3)
        have hl3 := HSl.out
        rcases I3.out.at_ with e | ⟨b1, o1, rfl, hm⟩
        · rw [e] at hl3; simp at hl3; omega
        have m3 := hm k (by omega)
        rw [HSak.out] at m3
        have HG3 := hid (HGt.out.below q3)
        clear q3 hm hl3
        by_cases hk0 : k = 0
        · subst hk0
          rw [Nat.add_zero] at m3
          cases sd
          all_goals
            go_wp2_with fail
            refine (known6_any _).mono ?_
            rintro e w4 ⟨hb, rfl⟩
            have P4 := hid (P3.out.trans (hb.mono P3.out.size))
            clear hb
            go_wp2
            go_ret
            exact ⟨P4.out, rfl⟩
        · have hk0' : ((k : Int) == 0) = false := by rw [beq_eq_false_iff_ne]; omega
          have HWf2 := hid (HWf.out (by omega))
          have HWt := hid (gWeights_any R (g.take k) rc w3 HG3.out)
          rw [HWf2.out, HLk.out] at HWt
          have HWG := hid (fun W (hb : Below w.heap.size w W) => gWeights_any (some ⟨b, off, none⟩) g cap W (HG.out.below hb))
          rw [HWg.out] at HWG
          have HTk := hid (fun j (hj : j < advs g) => (show (wtL (g.take k) (advs g))[j]?.getD 0 = (wtN 16777216 g j k : Int) by rw [HAt1.out (g.take k) (advs g) j hj, HLk.out, HWk.out j]))
          have HTg := hid (fun j (hj : j < advs g) => HAt1.out g (advs g) j hj)
          have HTl := hid (HL1.out (g.take k) (advs g))
          have HGl := hid (HL1.out g (advs g))
          have HBa := hid (fun j => wtN_le 16777216 g j k)
          generalize advs g = d at *
          generalize hlx : wtL (g.take k) d = lx at *
          generalize hly : wtL g d = ly at *
          clear hlx hly HAt1 HL1 HBs1 hk0 HWf HWf2 HWg HWk
          cases sd
          all_goals
            go_wp2_with fail
            refine HWt.out.mono ?_
            rintro e w4 ⟨q4, A4, c4, rfl, i4⟩
            have P4 := hid (P3.out.trans (q4.mono P3.out.size))
            have J4 := hid i4
            clear q4 i4
            dsimp only at J4
            go_wp2_with fail
            refine (HWG.out _ P4.out).mono ?_
            rintro e w5 ⟨q5, A5, c5, rfl, i5⟩
            have P5 := hid (P4.out.trans (q5.mono P4.out.size))
            have J5 := hid i5
            have K4 := hid (J4.out.below q5)
            clear q5 i5
            dsimp only at J5 ⊢
            rw [HTl.out, HGl.out]
            go_wp2
            go_loopw [15] (fun i wr => ∃ (j : Nat), j ≤ d ∧ i = .int .i64 j ∧ Hid (∃ n, wr = w5.drewN n)) (fun i _ => d - (intOf i).toNat)
            case atStart => exact ⟨0, Nat.zero_le _, rfl, ⟨0, rfl⟩⟩
            case round =>
              obtain ⟨j, hj, rfl, HWr⟩ := hrel
              obtain ⟨n9, hn9⟩ := HWr.out
              by_cases hlt : j < d
              · have ex := HTl.out
                have ey := HGl.out
                rcases K4.out.at_ with e | ⟨b4, o4, rfl, hm4⟩
                · rw [e] at ex; simp at ex; omega
                rcases J5.out.at_ with e | ⟨b5, o5, rfl, hm5⟩
                · rw [e] at ey; simp at ey; omega
                have x4 : wr.cell? ⟨b4, o4 + j, none⟩ = some (.int .i64 (wtN 16777216 g j k : Int)) := by rw [hn9, ← HTk.out j hlt]; exact hm4 j (by omega)
                have x5 : wr.cell? ⟨b5, o5 + j, none⟩ = some (.int .i64 (wtN 16777216 g j g.length : Int)) := by rw [hn9, ← HTg.out j hlt]; exact hm5 j (by omega)
                have hfl := HFl.out j
                have i0' : (0 : Int) ≤ (j : Int) := by omega
                have i1' : (j : Int) < (d : Int) := by omega
                clear hm4 hm5 ex ey hn9 n9
                generalize wtN 16777216 g j k = xx at *
                generalize wtN 16777216 g j g.length = yy at *
                have dd : decide (xx < yy) = false := decide_eq_false (by omega)
                go_wp2_with fail
                go_quiet (fail)
                go_wp2
                go_roundw
                case rel => exact ⟨j + 1, by omega, by go_num, by obtain ⟨n, e⟩ := HWr.out; exact ⟨n + nq, by rw [e, World.drewN_drewN]⟩⟩
                case measure => simp [intOf]; omega
              · obtain rfl : j = d := by omega
                have P6 := hid (show Below w.heap.size w wr by rw [hn9]; exact below_drewN P5.out n9)
                clear hn9 n9
                go_wp2_with fail
                refine (known6_any _).mono ?_
                rintro e w7 ⟨hb, rfl⟩
                have P7 := hid (P6.out.trans (hb.mono P6.out.size))
                clear hb
                go_wp2
                go_ret
                exact ⟨P7.out, rfl⟩
      · rw [said_no6 h0] at H1
        have h1 : (gameE g != 0) = true := by simp [h0]
        generalize gameE g = v at *
        clear h hl hG h0 hz
        go_enter Try.func7, Try.ntmps7
        go_wp2_with fail
        refine HL.out.mono ?_
        rintro e w1 ⟨rfl, rfl⟩
        go_wp2_with fail
        refine H1.out.mono ?_
        rintro e w1 ⟨q1, A1, c1, rfl, i1⟩
        have P1 := hid q1
        clear q1 i1
        go_wp2_with fail
        refine (known6_any _).mono ?_
        rintro e w2 ⟨hb, rfl⟩
        have P2 := hid (P1.out.trans (hb.mono P1.out.size))
        clear hb
        go_wp2
        go_ret
        exact ⟨P2.out, rfl⟩
end Go.Proofs.Ytfjncmhbpfcdiaa
