/- The Go functions ruleSteps, closure of package dish. -/
import Derived.Test.YtdgleicpcjfnoaaOwnSteps
import Derived.Deep.LoopGhost
set_option linter.unusedVariables false
namespace Go.Proofs.Ytdgleicpcjfnoaa
open Go.RowKit

theorem cntBits_lt (M n p : Nat) (hp : p < n) (hb : M.testBit p = false) : cntBits M n < n := by
  have h1 := cntBits_with M n p hb
  have h2 := cntBits_le (M ||| 2 ^ p) n
  rw [if_pos hp] at h1
  omega

set_option maxRecDepth 100000 in
set_option maxHeartbeats 4000000 in
theorem ruleSteps_any (P : Int) (a : Option Addr) (rls : List RuleL) (cap : Nat) (M0 : Nat) (w : World) (h : RulesAt w a rls) (hP : P ≤ 10) (hl : rls.length ≤ 16) (hr : rulesE P rls = 0) (hM : M0 < 2 ^ 10) :
  Calls Try.prog 69 #[.slice a rls.length cap, .int .u64 M0] w (fun en w' => OwnSR w (ruleL rls M0) en w' ∧ StepsOk 10 (ruleL rls M0) ∧ (ruleL rls M0).length ≤ 10) := by
  obtain ⟨i0, hinf, hz0, hz1, hz2⟩ := info_parts step_info
  have HH := hid h
  have HR := hid (rulesE_ok P rls hr)
  clear h hr
  go_enter Try.func69, Try.ntmps69
  go_wp2
  go_step3
  go_wp2
  go_step3
  go_wp2
  go_loopg [1, 5] 11 (fun g kn st wr => ∃ (l : List StepL) (M : Nat), kn = .int .u64 M ∧ M < 2 ^ 10 ∧ OwnS wr w.heap.size st l ∧ StepsOk 10 l ∧ l.length ≤ cntBits M 10 ∧ Hid (ruleL rls M0 = ruleRun rls g l M) ∧ 10 - cntBits M 10 < g ∧ Below w.heap.size w wr)
  case atStart => exact ⟨[], M0, rfl, hM, (show OwnS w w.heap.size (.slice none 0 0) [] from ⟨rfl, .inl ⟨rfl, rfl⟩⟩), (show StepsOk 10 [] from fun s hs => by cases hs), by simp, rfl, by omega, Below.refl _ _⟩
  case round =>
    obtain ⟨l, M, rfl, hMl, hS, hok, hll, HF, hgk, hB⟩ := hrel
    clear hM
    obtain ⟨f, rfl⟩ : ∃ f, gk = f + 1 := ⟨gk - 1, by omega⟩
    have hcl := cntBits_le M 10
    go_wp2
    obtain ⟨wo, rfl⟩ : ∃ wo : World, wo = wr := ⟨_, rfl⟩
    go_loopg [1, 5, 10] rls.length (fun g2 kn st i wr => ∃ k : Nat, k + g2 = rls.length ∧ i = .int .i64 k ∧ kn = .int .u64 M ∧ OwnS wr w.heap.size st l ∧ Below w.heap.size w wr ∧ Hid (findRule M rls 0 = findRule M (rls.drop k) k))
    case atStart => exact ⟨0, by omega, rfl, rfl, hS, hB, rfl⟩
    case round =>
      clear hS hB
      obtain ⟨k, hk, rfl, rfl, hS, hB, HD⟩ := hrel
      by_cases hlt : k < rls.length
      · rcases ((HH.out).below hB).at_ with e | ⟨b, off, rfl, hc⟩
        · rw [e] at hlt; simp at hlt
        obtain ⟨A, c, c0, c1, hA, hbd⟩ := hc k hlt
        have HD2 := hid (findRule_drop M rls k hlt)
        obtain ⟨r1, r2, r3⟩ := HR.out k hlt
        have hsm : Small 64 (rls[k]?.getD ([], 0)).1 := fun x hx => by have := isSetFrom_ge _ _ _ r1 x hx; omega
        have hlA := hA.len
        have hbl := cell_lt c0
        have HX := hid (show rls[k]?.getD ([], 0) = ((rls[k]?.getD ([], 0)).1, (rls[k]?.getD ([], 0)).2) from rfl)
        rw [HX.out] at HD2
        clear hc HX r1
        generalize (rls[k]?.getD ([], 0)).1 = xs at *
        generalize (rls[k]?.getD ([], 0)).2 = t at *
        obtain ⟨p, rfl⟩ := Int.eq_ofNat_of_zero_le r2
        have hlt' : (k : Int) < (rls.length : Int) := by omega
        have q1 := (Below.refl wr.heap.size wr).alloc (Nat.le_refl _) (.cells #[.slice A xs.length c, .int .i64 (p : Int)] 55)
        have hA2 := hA.below q1
        have hB2 := hB.trans (q1.mono hB.size)
        have hS2 := hS.below q1
        have HM := hid (has_mask M p · (by omega) (by omega))
        have HAl := hid (fun (w' : World) (hi : Ints w' A xs) => hasAll_mask M A xs c w' hi hsm (by omega))
        clear hA q1
        cases hb : M.testBit p with
        | true =>
          have HD3 := hid (show findRule M rls 0 = findRule M (rls.drop (k + 1)) (k + 1) by rw [HD.out, HD2.out, if_neg (by simp [fires, hb])])
          go_wp2_with fail
          refine (HM.out _).mono ?_
          rintro e w' ⟨rfl, rfl⟩
          rw [hb]
          clear hb
          go_wp2
          go_roundg (gk - 1)
          case rel => exact ⟨k + 1, by omega, by go_num, rfl, hS2, hB2, HD3⟩
          all_goals omega
        | false =>
          cases hsb : subB xs M with
          | false =>
            have HD3 := hid (show findRule M rls 0 = findRule M (rls.drop (k + 1)) (k + 1) by
              have : decide (maskL xs &&& (2 ^ 64 - 1 - M) = 0) = false := hsb
              rw [HD.out, HD2.out, if_neg (by simp [fires, this])])
            go_wp2_with fail
            refine (HM.out _).mono ?_
            rintro e w' ⟨rfl, rfl⟩
            rw [hb]
            go_wp2_with fail
            refine (HAl.out _ hA2).mono ?_
            rintro e w' ⟨rfl, rfl⟩
            rw [hsb]
            clear hb hsb
            go_wp2
            go_roundg (gk - 1)
            case rel => exact ⟨k + 1, by omega, by go_num, rfl, hS2, hB2, HD3⟩
            all_goals omega
          | true =>
            have HD3 := hid (show findRule M rls 0 = some (k, (p : Int)) by
              have : decide (maskL xs &&& (2 ^ 64 - 1 - M) = 0) = true := hsb
              rw [HD.out, HD2.out, if_pos (by rw [fires, Int.toNat_natCast, hb, this]; rfl)])
            have HF2 := hid (show ruleL rls M0 = ruleRun rls f (l ++ [((p : Int), -1, (k : Int))]) (M ||| 2 ^ p) by
              rw [HF.out, ruleRun_go rls f l M k (p : Int) HD3.out]; rfl)
            have hcw := cntBits_with M 10 p hb
            rw [if_pos (by omega)] at hcw
            have hclt := cntBits_lt M 10 p (by omega) hb
            have hMp : M ||| 2 ^ p < 2 ^ 10 := Nat.or_lt_two_pow hMl (two_pow_lt (by omega))
            have HWm := hid (with_mask M p · (by omega) (by omega))
            unfold OwnS at hS2
            go_wp2_with fail
            refine (HM.out _).mono ?_
            rintro e w' ⟨rfl, rfl⟩
            rw [hb]
            go_wp2_with fail
            refine (HAl.out _ hA2).mono ?_
            rintro e w' ⟨rfl, rfl⟩
            rw [hsb]
            have hS0 := hS
            unfold OwnS at hS0
            have e1 : (wr.alloc (.cells #[.slice A xs.length c, .int .i64 (p : Int)] 55)).cell? ⟨wr.heap.size, 1, none⟩ = some (.int .i64 (p : Int)) := by go_simp
            have hsz := hB.size
            clear hb hsb hS
            go_wp2_with (at_builtin; refine wpList_append_own _ rfl _ _ 42 rfl w.heap.size 53 i0 (.agg #[.int .i64 0, .int .i64 0, .int .i64 0]) 3 24 Try.underlying42 hinf hz0 hz1 hz2 rfl (by decide) _ _ _ rfl (hS2.alloc _) ⟨wr.heap.size + 1, 0, none⟩ 1 1 [.int .i64 (p : Int), .int .i64 (-1), .int .i64 (k : Int)] rfl rfl ?c1 ?c2 ?c3 ?c4 ?c5 ?_)
            case c1 =>
              have := World.news_of_block (cs := #[.int .i64 (p : Int), .int .i64 (-1), .int .i64 (k : Int)]) (t := 53) (fr := (0, 0)) (heap_alloc_new (wr.alloc (.cells #[.slice A xs.length c, .int .i64 (p : Int)] 55)) (.cells #[.int .i64 (p : Int), .int .i64 (-1), .int .i64 (k : Int)] 53))
              simpa using this
            case c2 => simp [Value.oneCell']
            case c3 => unfold maxLen; omega
            case c4 => omega
            case c5 => simp; omega
            intro v' w6 hown2 hgrow _
            have hnb : ∀ q, some q = u5.ownBlock → w.heap.size ≤ q ∧ q < wr.heap.size := fun q hq => hS0.lt q hq.symm
            have p6 := (hB2.alloc hB2.size _).grown hgrow (by simp; omega) (fun q hq => (hnb q hq.symm).1)
            have e2 := hgrow.cell ((World.cell?_alloc_past _ _ _ (by simp)).trans e1) (fun hq => by have := (hnb _ hq).2; simp at this)
            have g6 : wr.heap.size < w6.heap.size := by have := hgrow.size; simp at this; omega
            clear hgrow hS2 e1 hS0 hnb
            go_wp2_with fail
            refine (HWm.out _).mono ?_
            rintro e w' ⟨rfl, rfl⟩
            go_wp2
            go_roundg f
            case rel =>
              refine ⟨l ++ [((p : Int), -1, (k : Int))], M ||| 2 ^ p, rfl, hMp, ?_, ?_, ?_, HF2, ?_, p6⟩
              · unfold OwnS; rw [stepCells_snoc]; simpa using hown2
              · intro s hs
                rcases List.mem_append.1 hs with hs | hs
                · exact hok s hs
                · simp at hs; subst hs; exact ⟨by dsimp only; omega, by dsimp only; omega⟩
              · simp; omega
              · omega
            all_goals omega
      · obtain rfl : k = rls.length := by omega
        have HD3 := hid (show findRule M rls 0 = none by rw [HD.out, List.drop_of_length_le (Nat.le_refl _)]; rfl)
        have HF2 := hid (show ruleL rls M0 = l by rw [HF.out, ruleRun_stop rls _ l M HD3.out])
        obtain ⟨A, c, rfl⟩ := hS.sl
        go_wp2
        try rw [Exit.noGoto_ret]
        go_ret
        refine ⟨⟨hB, A, c, by rw [HF2.out]; rfl, by rw [HF2.out]; exact hS⟩, by rw [HF2.out]; exact hok, by rw [HF2.out]; omega⟩

theorem closL_lt {rls : List RuleL} {M : Nat} (hok : StepsOk 10 (ruleL rls M)) (hM : M < 2 ^ 10) : propsL (ruleL rls M) < 2 ^ 10 ∧ closL rls M < 2 ^ 10 := by
  have h := propsL_lt 10 (ruleL rls M) (fun s hs => by have := hok s hs; omega)
  exact ⟨h, Nat.or_lt_two_pow hM h⟩

set_option maxRecDepth 100000 in
set_option maxHeartbeats 2000000 in
theorem closure_any (P : Int) (a : Option Addr) (rls : List RuleL) (cap : Nat) (M0 : Nat) (w : World) (h : RulesAt w a rls) (hP : P ≤ 10) (hl : rls.length ≤ 16) (hr : rulesE P rls = 0) (hM : M0 < 2 ^ 10) :
  Calls Try.prog 61 #[.slice a rls.length cap, .int .u64 M0] w (fun en w' => Below w.heap.size w w' ∧ closL rls M0 < 2 ^ 10 ∧ en = .returned (.int .u64 (closL rls M0))) := by
  go_enter Try.func61, Try.ntmps61
  go_wp2_with fail
  refine (ruleSteps_any P a rls cap M0 w h hP hl hr hM).mono ?_
  rintro e w1 ⟨⟨q1, A, c, rfl, hS⟩, hok, hlen⟩
  have hst := hS.at_ (by omega)
  have hlt := closL_lt hok hM
  have HO := hid (or_bits M0 (propsL (ruleL rls M0)) (by omega) (by omega))
  go_wp2_with fail
  refine (propsOf_any _ _ _ _ hst (fun s hs => by have := hok s hs; omega)).mono ?_
  rintro e w2 ⟨q2, rfl⟩
  go_wp2
  go_ret
  exact ⟨q1.trans (q2.mono q1.size), hlt.2, ret_int HO.out⟩

end Go.Proofs.Ytdgleicpcjfnoaa
