/- The walk of the law GuessTogether. -/
import Derived.Test.YtfjncmhbpfcdiaaGuF
import Derived.Test.YtfjncmhbpfcdiaaGuLg
set_option linter.unusedVariables false
namespace Go.Proofs.Ytfjncmhbpfcdiaa
open Go.RowKit

theorem wtsV_ok7 {g : List Rnd} (h : gameN g = 0) : wtsV g = (wtL g (advs g), 0) := if_pos h
theorem wtsV_no7 {g : List Rnd} (h : gameN g ≠ 0) : wtsV g = ([], gameN g) := if_neg h
/-- Two advisers who agreed in the first k rounds. -/
def Agreed (g : List Rnd) (d x y k : Nat) : Prop := ∀ i, i < k → x < d ∧ y < d ∧ bAt (rAt g i).1 x = bAt (rAt g i).1 y
theorem agreed_wrong {g : List Rnd} (hg : GameOk g) (x y k : Nat) (hk : k ≤ g.length) (h : Agreed g (advs g) x y k) : wrongN g x k = wrongN g y k := by
  induction k with
  | zero => rfl
  | succ k ih =>
    obtain ⟨h1, h2, h3⟩ := h k (by omega)
    have hr := (hg.adv k (by omega)).1
    rw [wrongN, wrongN, ih (by omega) fun i hi => h i (by omega), bad_at _ x (by omega), bad_at _ y (by omega), h3]
theorem agreed_wt {g : List Rnd} (hg : GameOk g) (x y : Nat) (h : Agreed g (advs g) x y g.length) : wtN 16777216 g x g.length = wtN 16777216 g y g.length := by
  unfold wtN; rw [agreed_wrong hg x y g.length (Nat.le_refl _) h]
theorem surp_all (w : Nat → Nat) (b : Bool) (l : List Bool) (k : Nat) (h : ∀ i, i < k → bAt l i = b) : surp w l k = if b = true then (sumW w k : Int) else -(sumW w k : Int) := by
  induction k with
  | zero => simp [surp, sumW]
  | succ k ih =>
    rw [surp, ih fun i hi => h i (by omega), h k (by omega), sumW]
    cases b <;> simp <;> omega
theorem rep_at (b : Bool) (n i : Nat) (h : i < n) : bAt (List.replicate n b) i = b := by
  unfold bAt; rw [List.getElem?_replicate, if_pos h]; rfl
theorem say_all {g : List Rnd} (h : gameE g = 0) (b : Bool) (hp : 0 < g.length) : sayV g (List.replicate (advs g) b) = (b, 0) := by
  have hg := gameE_ok h
  have had := hg.adv 0 hp
  have hs : sayE g (List.replicate (advs g) b) = 0 := by
    unfold sayE
    rw [if_pos h, List.length_replicate, if_pos ⟨had.2.1, had.2.2, fun _ => rfl⟩]
  unfold sayV
  rw [if_pos hs]
  unfold sayN
  rw [surp_all _ b _ _ (fun i hi => rep_at b (advs g) i (by rw [List.length_replicate] at hi; exact hi)), List.length_replicate]
  have h1 := sumW_at (fun a => wtN 16777216 g a g.length) (advs g) 0 (by omega)
  have h2 : 1 ≤ wtN 16777216 g 0 g.length := by
    rw [wtN_full g 0 g.length hg.len]; exact Nat.pow_pos (by omega)
  cases b
  · simp
  · simp; omega
set_option maxRecDepth 100000 in
set_option maxHeartbeats 4000000 in
theorem guessTogether_walk (a : Option Addr) (g : List Rnd) (cap : Nat) (x y : Int) (al : Bool) (w : World) (h : GameRaw w a g) (hcap : g.length ≤ cap) (bx : -9223372036854775808 ≤ x ∧ x ≤ 9223372036854775807) (by_ : -9223372036854775808 ≤ y ∧ y ≤ 9223372036854775807) :
  Calls Try.prog 9 #[.slice a g.length cap, .agg #[.int .i64 x, .int .i64 y], .bool al] w (BoolR w true) := by
  have hlen := h.1
  have P0 := hid ((Below.refl w.heap.size w).alloc (Nat.le_refl _) (.cells #[.int .i64 x, .int .i64 y] 52))
  have HL := hid (fun W (hb : Below w.heap.size w W) => long6_any a g cap W (h.below hb))
  cases hl : longG g with
  | true =>
    rw [hl] at HL
    clear h hl
    go_enter Try.func9, Try.ntmps9
    go_wp2_with fail
    go_quiet (fail)
    have P1 := hid (below_drewN P0.out nq)
    go_wp2_with fail
    refine (HL.out _ P1.out).mono ?_
    rintro e w1 ⟨rfl, rfl⟩
    go_wp2_with fail
    refine (known6_any _).mono ?_
    rintro e wz ⟨hb, rfl⟩
    have PZ := hid (P1.out.trans (hb.mono P1.out.size))
    clear hb
    go_wp2
    go_ret
    exact ⟨PZ.out, rfl⟩
  | false =>
    rw [hl] at HL
    have hG := h.game hl
    clear h hl
    by_cases hz : g.length = 0
    · have hz' : ((g.length : Int) == 0) = true := by rw [beq_iff_eq]; omega
      clear hG hz
      go_enter Try.func9, Try.ntmps9
      go_wp2_with fail
      go_quiet (fail)
      have P1 := hid (below_drewN P0.out nq)
      go_wp2_with fail
      refine (HL.out _ P1.out).mono ?_
      rintro e w1 ⟨rfl, rfl⟩
      go_wp2_with fail
      refine (known6_any _).mono ?_
      rintro e wz ⟨hb, rfl⟩
      have PZ := hid (P1.out.trans (hb.mono P1.out.size))
      clear hb
      go_wp2
      go_ret
      exact ⟨PZ.out, rfl⟩
    have hz' : ((g.length : Int) == 0) = false := by rw [beq_eq_false_iff_ne]; omega
    have hpos : 0 < g.length := by omega
    by_cases hx : x < 0
    · clear hG hz hpos
      go_enter Try.func9, Try.ntmps9
      go_wp2_with fail
      go_quiet (fail)
      have P1 := hid (below_drewN P0.out nq)
      go_wp2_with fail
      refine (HL.out _ P1.out).mono ?_
      rintro e w1 ⟨rfl, rfl⟩
      go_wp2_with fail
      refine (known6_any _).mono ?_
      rintro e wz ⟨hb, rfl⟩
      have PZ := hid (P1.out.trans (hb.mono P1.out.size))
      clear hb
      go_wp2
      go_ret
      exact ⟨PZ.out, rfl⟩
    have hx0 : 0 ≤ x := by omega
    by_cases hy : y < 0
    · clear hG hz hx hpos
      go_enter Try.func9, Try.ntmps9
      go_wp2_with fail
      go_quiet (fail)
      have P1 := hid (below_drewN P0.out nq)
      go_wp2_with fail
      refine (HL.out _ P1.out).mono ?_
      rintro e w1 ⟨rfl, rfl⟩
      go_wp2_with fail
      refine (known6_any _).mono ?_
      rintro e wz ⟨hb, rfl⟩
      have PZ := hid (P1.out.trans (hb.mono P1.out.size))
      clear hb
      go_wp2
      go_ret
      exact ⟨PZ.out, rfl⟩
    have hy0 : 0 ≤ y := by omega
    clear hz hx hy
    have HW := hid (fun W (hb : Below w.heap.size w W) => gWeights_any a g cap W (hG.below hb))
    by_cases h0 : gameN g = 0
    case neg =>
      rw [wtsV_no7 h0] at HW
      have h1 : (gameN g != 0) = true := by simp [h0]
      generalize gameN g = v at *
      clear hG h0
      go_enter Try.func9, Try.ntmps9
      go_wp2_with fail
      go_quiet (fail)
      have P1 := hid (below_drewN P0.out nq)
      go_wp2_with fail
      refine (HL.out _ P1.out).mono ?_
      rintro e w1 ⟨rfl, rfl⟩
      go_wp2_with fail
      refine (HW.out _ P1.out).mono ?_
      rintro e w3 ⟨q3, A3, c3, rfl, _⟩
      have P3 := hid (P1.out.trans (q3.mono P1.out.size))
      clear q3
      go_wp2_with fail
      refine (known6_any _).mono ?_
      rintro e wz ⟨hb, rfl⟩
      have PZ := hid (P3.out.trans (hb.mono P3.out.size))
      clear hb
      go_wp2
      go_ret
      exact ⟨PZ.out, rfl⟩
    obtain ⟨hg0, _⟩ := gameN_ok h0
    have hg := gameE_ok hg0
    rw [wtsV_ok7 h0] at HW
    obtain ⟨n1, rfl⟩ := Int.eq_ofNat_of_zero_le hx0
    obtain ⟨n2, rfl⟩ := Int.eq_ofNat_of_zero_le hy0
    rcases hG.at_ with e | ⟨b, off, rfl, hc⟩
    · rw [e] at hpos; simp at hpos
    have HCs := hid (fun i hi => hc i hi)
    have HAd := hid (fun i hi => (hg.adv i hi).1)
    obtain ⟨A, c, c0, _, s0⟩ := hc 0 hpos
    rw [Nat.zero_mul, Nat.add_zero, (hg.adv 0 hpos).1] at c0
    have hbl := cell_lt c0
    dsimp only at hbl
    have HC0 := hid c0
    have g0' : (0 : Int) < (g.length : Int) := by omega
    have ha1 := (hg.adv 0 hpos).2.1
    have ha8 := (hg.adv 0 hpos).2.2
    have HAg := hid (fun hh => agreed_wt hg n1 n2 hh)
    have HSay := hid (fun W (hb : Below w.heap.size w W) B (hm : Marks W B (List.replicate (advs g) al)) lc => (show Calls Try.prog 25 #[.slice (some ⟨b, off, none⟩) g.length cap, .slice B (advs g) lc] W (BelS W (al, 0)) from by
      have := gSayP_any (some ⟨b, off, none⟩) B g (List.replicate (advs g) al) cap lc W (hG.below hb) hm
      rw [say_all hg0 al hpos, List.length_replicate] at this
      exact this))
    have hl24 := hg.len
    have HTl := hid (wtL_len g (advs g))
    have HTg := hid (fun j (hj : j < advs g) => wtL_at g (advs g) j hj)
    have HLe := hid (fun j => wtN_le 16777216 g j g.length)
    generalize advs g = d at *
    generalize hly : wtL g d = ly at *
    have hxi0 : (0 : Int) ≤ (n1 : Int) := by omega
    have hyi0 : (0 : Int) ≤ (n2 : Int) := by omega
    obtain ⟨i0, hinf, hz0, hz1, hz2⟩ := info_parts gbool_info
    clear hG hg hg0 h0 hc s0 c0 hly
    go_enter Try.func9, Try.ntmps9
    go_wp2_with fail
    go_quiet (fail)
    have P1 := hid (below_drewN P0.out nq)
    go_wp2_with fail
    refine (HL.out _ P1.out).mono ?_
    rintro e w1 ⟨rfl, rfl⟩
    go_wp2_with fail
    refine (HW.out _ P1.out).mono ?_
    rintro e w3 ⟨q3, A3, c3, rfl, i3⟩
    have P3 := hid (P1.out.trans (q3.mono P1.out.size))
    have I3 := hid i3
    clear q3 i3
    dsimp only at I3 ⊢
    rw [HTl.out]
    have k0 : w3.cell? ⟨b, off, none⟩ = some (.slice A d c) := by rw [P3.out.cell (p := ⟨b, off, none⟩) hbl]; exact HC0.out
    go_wp2
    go_loopw [11, 12] (fun t i wr => ∃ (k : Nat) (ag : Bool), k ≤ g.length ∧ i = .int .i64 k ∧ t = .bool ag ∧ Hid (ag = true → Agreed g d n1 n2 k) ∧ Hid (∃ n, wr = w3.drewN n)) (fun _ i _ => g.length - (intOf i).toNat)
    case atStart => exact ⟨0, true, Nat.zero_le _, rfl, rfl, fun _ i hi => absurd hi (by omega), ⟨0, rfl⟩⟩
    case round =>
      obtain ⟨k, ag, hk, rfl, rfl, HA, HWr⟩ := hrel
      clear k0
      by_cases hlt : k < g.length
      · obtain ⟨n9, hn9⟩ := HWr.out
        obtain ⟨A1, c1, d0, _, m1⟩ := HCs.out k hlt
        have hr := HAd.out k hlt
        rw [hr] at d0
        have hbl1 := cell_lt d0
        have e0 : wr.cell? ⟨b, off + k * 2, none⟩ = some (.slice A1 d c1) := by rw [hn9]; exact (P3.out.cell (p := ⟨b, off + k * 2, none⟩) hbl).trans d0
        have HM := hid (show Marks wr A1 (rAt g k).1 by rw [hn9]; exact (m1.below P3.out).below (below_drewN (Below.refl _ _) n9))
        have i0' : (0 : Int) ≤ (k : Int) := by omega
        have i1' : (k : Int) < (g.length : Int) := by omega
        clear hn9 n9 d0 m1
        by_cases ga : d ≤ n1
        · have ga1 : decide (d ≤ n1) = true := decide_eq_true ga
          have ga2 : (d : Int) ≤ (n1 : Int) := by omega
          clear HM hr ga
          go_wp2_with fail
          go_quiet (fail)
          go_wp2
          go_roundw
          case rel => exact ⟨k + 1, false, by omega, by go_num, rfl, fun hh => by simp at hh, by obtain ⟨n, e⟩ := HWr.out; exact ⟨n + nq, by rw [e, World.drewN_drewN]⟩⟩
          case measure => simp [intOf]; omega
        · have ga1 : decide (d ≤ n1) = false := decide_eq_false ga
          have ga2 : (n1 : Int) < (d : Int) := by omega
          have ga3 : n1 < d := by omega
          clear ga
          by_cases gb : d ≤ n2
          · have gb1 : decide (d ≤ n2) = true := decide_eq_true gb
            have gb2 : (d : Int) ≤ (n2 : Int) := by omega
            clear HM hr gb
            go_wp2_with fail
            go_quiet (fail)
            go_wp2
            go_roundw
            case rel => exact ⟨k + 1, false, by omega, by go_num, rfl, fun hh => by simp at hh, by obtain ⟨n, e⟩ := HWr.out; exact ⟨n + nq, by rw [e, World.drewN_drewN]⟩⟩
            case measure => simp [intOf]; omega
          · have gb1 : decide (d ≤ n2) = false := decide_eq_false gb
            have gb2 : (n2 : Int) < (d : Int) := by omega
            have gb3 : n2 < d := by omega
            clear gb
            rcases HM.out.at_ with e | ⟨b1, o1, rfl, hm⟩
            · rw [e] at hr; simp at hr; omega
            have x1 := hm n1 (by omega)
            have x2 := hm n2 (by omega)
            have HP := hid (show ∀ pp qq, bAt (rAt g k).1 n1 = pp → bAt (rAt g k).1 n2 = qq → pp = qq → ag = true → Agreed g d n1 n2 (k + 1) from fun pp qq e1 e2 e3 e4 i hi => by
              rcases Nat.lt_or_ge i k with hh | hh
              · exact HA.out e4 i hh
              · obtain rfl : i = k := by omega
                exact ⟨ga3, gb3, by rw [e1, e2, e3]⟩)
            have HQ := hid (HP.out _ _ rfl rfl)
            clear hm hr HP
            generalize bAt (rAt g k).1 n1 = pp at *
            generalize bAt (rAt g k).1 n2 = qq at *
            cases hpq : (pp == qq) with
            | true =>
              have HR2 := hid (HQ.out (by simpa using hpq))
              clear HQ
              go_wp2_with fail
              go_quiet (fail)
              go_wp2
              go_roundw
              case rel => exact ⟨k + 1, ag, by omega, by go_num, rfl, HR2, by obtain ⟨n, e⟩ := HWr.out; exact ⟨n + nq, by rw [e, World.drewN_drewN]⟩⟩
              case measure => simp [intOf]; omega
            | false =>
              clear HQ
              go_wp2_with fail
              go_quiet (fail)
              go_wp2
              go_roundw
              case rel => exact ⟨k + 1, false, by omega, by go_num, rfl, fun hh => by simp at hh, by obtain ⟨n, e⟩ := HWr.out; exact ⟨n + nq, by rw [e, World.drewN_drewN]⟩⟩
              case measure => simp [intOf]; omega
      · obtain rfl : k = g.length := by omega
        obtain ⟨n9, hn9⟩ := HWr.out
        have PR := hid (show Below w.heap.size w wr by rw [hn9]; exact below_drewN P3.out n9)
        have hex := HTl.out
        cases ag with
        | true =>
          have hA := HA.out rfl
          have hA0 := hA 0 hpos
          have HEq := hid (HAg.out hA)
          rcases I3.out.at_ with e | ⟨b3, o3, rfl, hm⟩
          · rw [e] at hex; simp at hex; omega
          have x1 : wr.cell? ⟨b3, o3 + n1, none⟩ = some (.int .i64 (wtN 16777216 g n1 g.length : Int)) := by rw [hn9, ← HTg.out n1 hA0.1]; exact hm n1 (by omega)
          have x2 : wr.cell? ⟨b3, o3 + n2, none⟩ = some (.int .i64 (wtN 16777216 g n1 g.length : Int)) := by rw [hn9, HEq.out, ← HTg.out n2 hA0.2.1]; exact hm n2 (by omega)
          have hv := HLe.out n1
          have y1 : (n1 : Int) < (d : Int) := by omega
          have y2 : (n2 : Int) < (d : Int) := by omega
          clear hm hn9 n9 hex hA hA0
          generalize wtN 16777216 g n1 g.length = vv at *
          go_wp2_with fail
          go_quiet (fail)
          have PQ := hid (below_drewN PR.out nq)
          go_wp2
          generalize hwq : wr.drewN nq = wq at *
          have hsq := PQ.out.size
          clear hwq
          go_loopw [13, 14] (fun o i wt => ∃ (j : Nat), j ≤ d ∧ i = .int .i64 j ∧ wt.ownsRow wq.heap.size 4 1 o j (mcells (List.replicate j al)) ∧ Below wq.heap.size wq wt) (fun _ i _ => d - (intOf i).toNat)
          case atStart => exact ⟨0, Nat.zero_le _, rfl, ⟨rfl, .inl ⟨rfl, rfl⟩⟩, Below.refl _ _⟩
          case round =>
            obtain ⟨j, hj, rfl, hown, hB⟩ := hrel
            by_cases hjd : j < d
            · have HT := hid (show mcells (List.replicate (j + 1) al) = mcells (List.replicate j al) ++ [.bool al] by rw [List.replicate_succ', mcells_snoc])
              go_wp2_with (at_builtin; refine wpList_append_own _ rfl _ _ 36 rfl wq.heap.size 4 i0 (.bool false) 1 1 Try.underlying36 hinf hz0 hz1 hz2 rfl (by decide) _ _ _ rfl (hown.alloc _) ⟨wr.heap.size, 0, none⟩ 1 1 [.bool al] rfl rfl ?cA1 ?cA2 ?cA3 ?cA4 ?cA5 ?_)
              case cA1 => exact cell_one_new _ _ _
              case cA2 => simp [Value.oneCell']
              case cA3 => unfold maxLen; omega
              case cA4 => omega
              case cA5 => have := hB.size; simp; omega
              intro v' w4 hown2 hgrow _
              have p4 := (hB.alloc hB.size _).grown hgrow (by have := hB.size; simp; omega) (fun q hq => by have := (hown.lt q hq).1; omega)
              clear hgrow hown
              go_wp2
              go_roundw
              case rel => exact ⟨j + 1, by omega, by go_num, by rw [HT.out]; simpa using hown2, p4⟩
              case measure => simp [intOf]; omega
            · obtain rfl : j = d := by omega
              have hO : OwnM wr wq.heap.size u13 (List.replicate j al) := by unfold OwnM; rw [List.length_replicate]; exact hown
              obtain ⟨B, lc, rfl, hM⟩ := hO.marks (by rw [List.length_replicate]; omega)
              have PT := hid (PQ.out.trans (hB.mono hsq))
              have HSy := hid (HSay.out wr PT.out B hM lc)
              rw [List.length_replicate]
              clear hown hO hM hB
              cases al
              all_goals
                go_wp2_with fail
                refine HSy.out.mono ?_
                rintro e w7 ⟨q7, rfl⟩
                have P7 := hid (PT.out.trans (q7.mono PT.out.size))
                clear q7
                go_wp2_with fail
                refine (known6_any _).mono ?_
                rintro e wz ⟨hb, rfl⟩
                have PZ := hid (P7.out.trans (hb.mono P7.out.size))
                clear hb
                go_wp2
                go_ret
                exact ⟨PZ.out, rfl⟩
        | false =>
          clear hn9 n9 hex
          go_wp2_with fail
          go_quiet (fail)
          have PQ := hid (below_drewN PR.out nq)
          go_wp2
          generalize hwq : wr.drewN nq = wq at *
          have hsq := PQ.out.size
          clear hwq
          go_loopw [13, 14] (fun o i wt => ∃ (j : Nat), j ≤ d ∧ i = .int .i64 j ∧ wt.ownsRow wq.heap.size 4 1 o j (mcells (List.replicate j al)) ∧ Below wq.heap.size wq wt) (fun _ i _ => d - (intOf i).toNat)
          case atStart => exact ⟨0, Nat.zero_le _, rfl, ⟨rfl, .inl ⟨rfl, rfl⟩⟩, Below.refl _ _⟩
          case round =>
            obtain ⟨j, hj, rfl, hown, hB⟩ := hrel
            by_cases hjd : j < d
            · have HT := hid (show mcells (List.replicate (j + 1) al) = mcells (List.replicate j al) ++ [.bool al] by rw [List.replicate_succ', mcells_snoc])
              go_wp2_with (at_builtin; refine wpList_append_own _ rfl _ _ 36 rfl wq.heap.size 4 i0 (.bool false) 1 1 Try.underlying36 hinf hz0 hz1 hz2 rfl (by decide) _ _ _ rfl (hown.alloc _) ⟨wr.heap.size, 0, none⟩ 1 1 [.bool al] rfl rfl ?cB1 ?cB2 ?cB3 ?cB4 ?cB5 ?_)
              case cB1 => exact cell_one_new _ _ _
              case cB2 => simp [Value.oneCell']
              case cB3 => unfold maxLen; omega
              case cB4 => omega
              case cB5 => have := hB.size; simp; omega
              intro v' w4 hown2 hgrow _
              have p4 := (hB.alloc hB.size _).grown hgrow (by have := hB.size; simp; omega) (fun q hq => by have := (hown.lt q hq).1; omega)
              clear hgrow hown
              go_wp2
              go_roundw
              case rel => exact ⟨j + 1, by omega, by go_num, by rw [HT.out]; simpa using hown2, p4⟩
              case measure => simp [intOf]; omega
            · obtain rfl : j = d := by omega
              have hO : OwnM wr wq.heap.size u13 (List.replicate j al) := by unfold OwnM; rw [List.length_replicate]; exact hown
              obtain ⟨B, lc, rfl, hM⟩ := hO.marks (by rw [List.length_replicate]; omega)
              have PT := hid (PQ.out.trans (hB.mono hsq))
              have HSy := hid (HSay.out wr PT.out B hM lc)
              rw [List.length_replicate]
              clear hown hO hM hB
              cases al
              all_goals
                go_wp2_with fail
                refine HSy.out.mono ?_
                rintro e w7 ⟨q7, rfl⟩
                have P7 := hid (PT.out.trans (q7.mono PT.out.size))
                clear q7
                go_wp2_with fail
                refine (known6_any _).mono ?_
                rintro e wz ⟨hb, rfl⟩
                have PZ := hid (P7.out.trans (hb.mono P7.out.size))
                clear hb
                go_wp2
                go_ret
                exact ⟨PZ.out, rfl⟩
end Go.Proofs.Ytfjncmhbpfcdiaa
