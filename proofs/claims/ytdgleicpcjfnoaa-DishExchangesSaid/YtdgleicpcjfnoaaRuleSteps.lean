/- The Go functions ruleSteps, closure of package dish. -/
import Derived.Test.YtdgleicpcjfnoaaSteps
import Derived.Deep.LoopGhost
/- The Go function ownSteps of package dish. -/
set_option linter.unusedVariables false
namespace Go.Proofs.Ytdgleicpcjfnoaa
open Go.RowKit

def OwnSR (w : World) (l : List StepL) (en : Ending) (w' : World) : Prop := Below w.heap.size w w' ∧ ∃ A c, en = .returned (.slice A l.length c) ∧ OwnS w' w.heap.size (.slice A l.length c) l
theorem OwnS.below {w w' : World} {base : Nat} {v : Value} {l : List StepL} (h : OwnS w base v l) (hb : Below w.heap.size w w') : OwnS w' base v l := own_below h hb

theorem ownAll_ok {n : Int} (its : List ItemL) {acc : List StepL} (fs : List Int) (h : StepsOk n acc) (hp : ∀ f ∈ fs, ∀ p ∈ (its[f.toNat]?.getD ([], [])).2, 0 ≤ p ∧ p < n) : StepsOk n (ownAll its acc fs) := by
  induction fs generalizing acc with
  | nil => exact h
  | cons x t ih => exact ih (ownHas_ok x _ h (hp x (by simp))) (fun f hh => hp f (by simp [hh]))
theorem ownAll_fresh (its : List ItemL) {acc : List StepL} (fs : List Int) (h : Fresh acc) (hp : ∀ f ∈ fs, ∀ p ∈ (its[f.toNat]?.getD ([], [])).2, 0 ≤ p ∧ p < 10) : Fresh (ownAll its acc fs) := by
  induction fs generalizing acc with
  | nil => exact h
  | cons x t ih => exact ih (ownHas_fresh x _ h (hp x (by simp))) (fun f hh => hp f (by simp [hh]))

set_option maxRecDepth 100000 in
set_option maxHeartbeats 4000000 in
theorem ownSteps_any (P : Int) (ia : Option Addr) (its : List ItemL) (ic : Nat) (r : Value) (n : Nat) (w : World) (h : ItemsAt w ia its) (hP : P ≤ 10) (hl : its.length ≤ 20) (hn : n < its.length) (hi : itemsE P 0 its = 0) :
  Calls Try.prog 68 #[.agg #[.int .i64 P, .slice ia its.length ic, r], .int .i64 n] w (fun en w' => OwnSR w (ownL its n) en w' ∧ StepsOk 10 (ownL its n) ∧ Fresh (ownL its n)) := by
  obtain ⟨i0, hinf, hz0, hz1, hz2⟩ := info_parts step_info
  have hB0 := (Below.refl w.heap.size w).alloc (Nat.le_refl _) (.cells #[.int .i64 P, .slice ia its.length ic, r] 25)
  have hA := h.below hB0
  have hns : ∀ f ∈ bitsTo (contL its n) 64, 0 ≤ f ∧ f < (its.length : Int) := fun f hf => by
    obtain ⟨i, rfl, _, hb⟩ := (mem_bitsTo _ _ _).1 hf
    have := contL_bits P its hi n hn i hb
    omega
  have hhas : ∀ f ∈ bitsTo (contL its n) 64, ∀ p ∈ (its[f.toNat]?.getD ([], [])).2, 0 ≤ p ∧ p < 10 := fun f hf p hp => by
    have := hns f hf
    have := isSetFrom_ge _ _ _ (itemsE_ok P its 0 hi f.toNat (by omega)).2.2 p hp
    omega
  have HNs := hid hns
  have HHas := hid hhas
  have hlen64 := bitsTo_len (contL its n) 64
  have HRes := hid (show ownL its n = ownAll its [] (bitsTo (contL its n) 64) from rfl)
  clear hns hhas
  go_enter Try.func68, Try.ntmps68
  go_wp2_with fail
  refine (contained_any _ _ _ _ _ _ _ hA hl hn hi).mono ?_
  rintro e w1 ⟨q1, hcl, rfl⟩
  have p1 := hB0.trans (q1.mono (by simp))
  have hs1 := q1.size
  simp only [World.size_alloc] at hs1
  have a1 : w1.cell? ⟨w.heap.size, 1, none⟩ = some (.slice ia its.length ic) := by rw [q1.cell (by simp)]; go_simp
  go_wp2_with fail
  refine (numbers_any _ _ (by omega)).mono ?_
  rintro e w2 ⟨q2, A, c, rfl, hown⟩
  have p2 := p1.trans (q2.mono p1.size)
  have hs2 := q2.size
  rw [← q2.cell (by simp; omega)] at a1
  obtain ⟨A', c', hv, hN⟩ := hown.ints (by have := hlen64; unfold numsL; omega) (fun x hx => by have := numsL_small _ x hx; omega)
  cases hv
  have hn2 : numsL (contL its n) = bitsTo (contL its n) 64 := rfl
  rw [hn2] at hN ⊢
  have hit := h.below p2
  clear hown hcl q1 q2 h hA hB0 hn2
  generalize bitsTo (contL its n) 64 = ns at *
  go_wp2
  go_loopw [5, 15] (fun v i wr => ∃ k : Nat, k ≤ ns.length ∧ i = .int .i64 k ∧ OwnS wr w2.heap.size v (ownAll its [] (ns.take k)) ∧ Below w2.heap.size w2 wr) (fun _ i _ => ns.length - (intOf i).toNat)
  case atStart => exact ⟨0, Nat.zero_le _, rfl, ⟨rfl, .inl ⟨rfl, rfl⟩⟩, Below.refl _ _⟩
  case round =>
    obtain ⟨k, hk, rfl, hS, hB⟩ := hrel
    have hszr := hB.size
    by_cases hlt : k < ns.length
    · rcases (hN.below hB).at_ with e | ⟨b, off, rfl, hc⟩
      · rw [e] at hlt; simp at hlt
      have c0 := hc k hlt
      have HT := hid (ownAll_take its [] ns k hlt)
      have hf := HNs.out _ (getD_mem ns k hlt)
      have hok := ownAll_ok (n := 10) (acc := []) its (ns.take k) (fun s hs => by cases hs) (fun f hf => HHas.out f (List.mem_of_mem_take hf))
      have hfr := ownAll_fresh (acc := []) its (ns.take k) (by rfl) (fun f hf => HHas.out f (List.mem_of_mem_take hf))
      have hhs := HHas.out _ (getD_mem ns k hlt)
      clear hc
      generalize ns[k]?.getD 0 = frm at *
      generalize ownAll its [] (ns.take k) = acc at *
      obtain ⟨fn, rfl⟩ := Int.eq_ofNat_of_zero_le hf.1
      rw [Int.toNat_natCast] at hhs
      have HI := hid (show ownItem its acc (fn : Int) = ownHas fn acc (its[fn]?.getD ([], [])).2 by unfold ownItem; rw [Int.toNat_natCast])
      have a1r : wr.cell? ⟨w.heap.size, 1, none⟩ = some (.slice ia its.length ic) := by rw [hB.cell (by simp; omega)]; exact a1
      rcases hit.at_ with e | ⟨bi, oi, rfl, hci⟩
      · rw [e] at hf; simp at hf; omega
      obtain ⟨A3, c3, B3, d3, j0c, j1c, _, hBi⟩ := hci fn (by omega)
      have i0c : wr.cell? _ = _ := (hB.cell (cell_lt j0c)).trans j0c
      have i1c : wr.cell? _ = _ := (hB.cell (cell_lt j1c)).trans j1c
      clear j0c j1c
      have hfl : (fn : Int) < (its.length : Int) := hf.2
      have g0 : w.heap.size < wr.heap.size := by omega
      have hlB := hBi.len
      clear hci
      generalize (its[fn]?.getD ([], [])).1 = ps at *
      generalize (its[fn]?.getD ([], [])).2 = hs at *
      have hHH := hid hhs
      clear hhs
      go_wp2
      obtain ⟨wo, rfl⟩ : ∃ wo : World, wo = wr := ⟨_, rfl⟩
      go_loopw [5, 26] (fun v i wr => ∃ j : Nat, j ≤ hs.length ∧ i = .int .i64 j ∧ OwnS wr w2.heap.size v (ownHas fn acc (hs.take j)) ∧ Below w2.heap.size w2 wr) (fun _ i _ => hs.length - (intOf i).toNat)
      case atStart => exact ⟨0, Nat.zero_le _, rfl, hS, hB⟩
      case round =>
        clear hB hszr hS c0 a1r i0c i1c g0
        obtain ⟨j, hj, rfl, hS, hB⟩ := hrel
        have hszr := hB.size
        by_cases hjlt : j < hs.length
        · rcases (hBi.below hB).at_ with e | ⟨bh, oh, rfl, hch⟩
          · rw [e] at hjlt; simp at hjlt
          have c0 := hch j hjlt
          have hp := hHH.out _ (getD_mem hs j hjlt)
          have HT2 := hid (ownHas_take fn acc hs j hjlt)
          have hok2 := ownHas_ok (n := 10) fn (hs.take j) hok (fun p hp => hHH.out p (List.mem_of_mem_take hp))
          have hfr2 := ownHas_fresh fn (hs.take j) hfr (fun p hp => hHH.out p (List.mem_of_mem_take hp))
          clear hch
          generalize hs[j]?.getD 0 = y at *
          generalize ownHas fn acc (hs.take j) = st at *
          obtain ⟨A4, c4, rfl⟩ := hS.sl
          have hst := hS.at_ (by have := hfr2.len; omega)
          have hln := hfr2.len
          have hpl : propsL st < 2 ^ 10 := propsL_lt 10 st (fun s hs => by have := hok2 s hs; omega)
          obtain ⟨yn, rfl⟩ := Int.eq_ofNat_of_zero_le hp.1
          have HM := hid (has_mask (propsL st) yn · (by omega) (by omega))
          go_wp2_with fail
          refine (propsOf_any _ _ _ _ hst (fun s hs => by have := hok2 s hs; omega)).mono ?_
          rintro e w5 ⟨q5, rfl⟩
          have p5 := hB.trans (q5.mono hB.size)
          have hS5 := hS.below q5
          go_wp2_with fail
          refine (HM.out _).mono ?_
          rintro e w' ⟨rfl, rfl⟩
          cases hb : (propsL st).testBit yn with
          | true =>
            have HA := hid (show ownAdd fn st (yn : Int) = st by unfold ownAdd; rw [if_pos (by rw [Int.toNat_natCast]; exact hb)])
            clear hb hst hS
            go_wp2
            go_roundw
            case rel => exact ⟨j + 1, by omega, by go_num, by rw [HT2.out, HA.out]; exact hS5, p5⟩
            case measure => simp [intOf]; omega
          | false =>
            have HA := hid (show ownAdd fn st (yn : Int) = st ++ [((yn : Int), (fn : Int), -1)] by unfold ownAdd; rw [if_neg (by rw [Int.toNat_natCast, hb]; simp)])
            clear hb hst hS
            unfold OwnS at hS5
            go_wp2_with (at_builtin; refine wpList_append_own _ rfl _ _ 42 rfl w2.heap.size 53 i0 (.agg #[.int .i64 0, .int .i64 0, .int .i64 0]) 3 24 Try.underlying42 hinf hz0 hz1 hz2 rfl (by decide) _ _ _ rfl (hS5.alloc _) ⟨w5.heap.size, 0, none⟩ 1 1 [.int .i64 (yn : Int), .int .i64 (fn : Int), .int .i64 (-1)] rfl rfl ?c1 ?c2 ?c3 ?c4 ?c5 ?_)
            case c1 => exact World.news_of_block (cs := #[.int .i64 (yn : Int), .int .i64 (fn : Int), .int .i64 (-1)]) (t := 53) (fr := (0, 0)) (heap_alloc_new w5 _)
            case c2 => simp [Value.oneCell']
            case c3 => unfold maxLen; omega
            case c4 => omega
            case c5 => have := p5.size; simp; omega
            intro v' w6 hown2 hgrow _
            have p6 := (p5.alloc p5.size _).grown hgrow (by have := p5.size; simp; omega) (fun q hq => by have := (hS5.lt q hq).1; omega)
            clear hgrow hS5
            go_wp2
            go_roundw
            case rel => exact ⟨j + 1, by omega, by go_num, by rw [HT2.out, HA.out]; unfold OwnS; rw [stepCells_snoc]; simpa using hown2, p6⟩
            case measure => simp [intOf]; omega
        · obtain rfl : j = hs.length := by omega
          rw [List.take_length] at hS
          go_wp2
          go_roundw
          case rel => exact ⟨k + 1, by omega, by go_num, by rw [HT.out, HI.out]; exact hS, hB⟩
          case measure => simp [intOf]; omega
    · obtain rfl : k = ns.length := by omega
      rw [List.take_length] at hS
      have hok := ownAll_ok (n := 10) (acc := []) its ns (fun s hs => by cases hs) HHas.out
      have hfr := ownAll_fresh (acc := []) its ns (by rfl) HHas.out
      rw [← HRes.out] at hok hfr hS
      obtain ⟨A4, c4, rfl⟩ := hS.sl
      go_wp2
      go_ret
      exact ⟨⟨p2.trans (hB.mono p2.size), A4, c4, rfl, own_weak hS p2.size⟩, hok, hfr⟩

end Go.Proofs.Ytdgleicpcjfnoaa
set_option linter.unusedVariables false
namespace Go.Proofs.Ytdgleicpcjfnoaa
open Go.RowKit

theorem cntBits_lt (M n p : Nat) (hp : p < n) (hb : M.testBit p = false) : cntBits M n < n := by
  have h1 := cntBits_with M n p hb
  have h2 := cntBits_le (M ||| 2 ^ p) n
  rw [if_pos hp] at h1
  omega

set_option maxRecDepth 100000 in
set_option maxHeartbeats 4000000 in
theorem ruleSteps_any (P : Int) (a : Option Addr) (rls : List RuleL) (cap : Nat) (M0 : Nat) (w : World) (h : RulesAt w a rls) (hP : P ≤ 10) (hl : rls.length ≤ 16) (hr : rulesE P rls = 0) (hM : M0 < 2 ^ 10) :
  Calls Try.prog 69 #[.slice a rls.length cap, .int .u64 M0] w (fun en w' => OwnSR w (ruleL rls M0) en w' ∧ StepsOk 10 (ruleL rls M0) ∧ (ruleL rls M0).length ≤ 10) := by
  obtain ⟨i0, hinf, hz0, hz1, hz2⟩ := info_parts step_info
  have HH := hid h
  have HR := hid (rulesE_ok P rls hr)
  clear h hr
  go_enter Try.func69, Try.ntmps69
  go_wp2
  go_step3
  go_wp2
  go_step3
  go_wp2
  go_loopg [1, 5] 11 (fun g kn st wr => ∃ (l : List StepL) (M : Nat), kn = .int .u64 M ∧ M < 2 ^ 10 ∧ OwnS wr w.heap.size st l ∧ StepsOk 10 l ∧ l.length ≤ cntBits M 10 ∧ Hid (ruleL rls M0 = ruleRun rls g l M) ∧ 10 - cntBits M 10 < g ∧ Below w.heap.size w wr)
  case atStart => exact ⟨[], M0, rfl, hM, (show OwnS w w.heap.size (.slice none 0 0) [] from ⟨rfl, .inl ⟨rfl, rfl⟩⟩), (show StepsOk 10 [] from fun s hs => by cases hs), by simp, rfl, by omega, Below.refl _ _⟩
  case round =>
    obtain ⟨l, M, rfl, hMl, hS, hok, hll, HF, hgk, hB⟩ := hrel
    clear hM
    obtain ⟨f, rfl⟩ : ∃ f, gk = f + 1 := ⟨gk - 1, by omega⟩
    have hcl := cntBits_le M 10
    go_wp2
    obtain ⟨wo, rfl⟩ : ∃ wo : World, wo = wr := ⟨_, rfl⟩
    go_loopg [1, 5, 10] rls.length (fun g2 kn st i wr => ∃ k : Nat, k + g2 = rls.length ∧ i = .int .i64 k ∧ kn = .int .u64 M ∧ OwnS wr w.heap.size st l ∧ Below w.heap.size w wr ∧ Hid (findRule M rls 0 = findRule M (rls.drop k) k))
    case atStart => exact ⟨0, by omega, rfl, rfl, hS, hB, rfl⟩
    case round =>
      clear hS hB
      obtain ⟨k, hk, rfl, rfl, hS, hB, HD⟩ := hrel
      by_cases hlt : k < rls.length
      · rcases ((HH.out).below hB).at_ with e | ⟨b, off, rfl, hc⟩
        · rw [e] at hlt; simp at hlt
        obtain ⟨A, c, c0, c1, hA, hbd⟩ := hc k hlt
        have HD2 := hid (findRule_drop M rls k hlt)
        obtain ⟨r1, r2, r3⟩ := HR.out k hlt
        have hsm : Small 64 (rls[k]?.getD ([], 0)).1 := fun x hx => by have := isSetFrom_ge _ _ _ r1 x hx; omega
        have hlA := hA.len
        have hbl := cell_lt c0
        have HX := hid (show rls[k]?.getD ([], 0) = ((rls[k]?.getD ([], 0)).1, (rls[k]?.getD ([], 0)).2) from rfl)
        rw [HX.out] at HD2
        clear hc HX r1
        generalize (rls[k]?.getD ([], 0)).1 = xs at *
        generalize (rls[k]?.getD ([], 0)).2 = t at *
        obtain ⟨p, rfl⟩ := Int.eq_ofNat_of_zero_le r2
        have hlt' : (k : Int) < (rls.length : Int) := by omega
        have q1 := (Below.refl wr.heap.size wr).alloc (Nat.le_refl _) (.cells #[.slice A xs.length c, .int .i64 (p : Int)] 55)
        have hA2 := hA.below q1
        have hB2 := hB.trans (q1.mono hB.size)
        have hS2 := hS.below q1
        have HM := hid (has_mask M p · (by omega) (by omega))
        have HAl := hid (fun (w' : World) (hi : Ints w' A xs) => hasAll_mask M A xs c w' hi hsm (by omega))
        clear hA q1
        cases hb : M.testBit p with
        | true =>
          have HD3 := hid (show findRule M rls 0 = findRule M (rls.drop (k + 1)) (k + 1) by rw [HD.out, HD2.out, if_neg (by simp [fires, hb])])
          go_wp2_with fail
          refine (HM.out _).mono ?_
          rintro e w' ⟨rfl, rfl⟩
          rw [hb]
          clear hb
          go_wp2
          go_roundg (gk - 1)
          case rel => exact ⟨k + 1, by omega, by go_num, rfl, hS2, hB2, HD3⟩
          all_goals omega
        | false =>
          cases hsb : subB xs M with
          | false =>
            have HD3 := hid (show findRule M rls 0 = findRule M (rls.drop (k + 1)) (k + 1) by
              have : decide (maskL xs &&& (2 ^ 64 - 1 - M) = 0) = false := hsb
              rw [HD.out, HD2.out, if_neg (by simp [fires, this])])
            go_wp2_with fail
            refine (HM.out _).mono ?_
            rintro e w' ⟨rfl, rfl⟩
            rw [hb]
            go_wp2_with fail
            refine (HAl.out _ hA2).mono ?_
            rintro e w' ⟨rfl, rfl⟩
            rw [hsb]
            clear hb hsb
            go_wp2
            go_roundg (gk - 1)
            case rel => exact ⟨k + 1, by omega, by go_num, rfl, hS2, hB2, HD3⟩
            all_goals omega
          | true =>
            have HD3 := hid (show findRule M rls 0 = some (k, (p : Int)) by
              have : decide (maskL xs &&& (2 ^ 64 - 1 - M) = 0) = true := hsb
              rw [HD.out, HD2.out, if_pos (by rw [fires, Int.toNat_natCast, hb, this]; rfl)])
            have HF2 := hid (show ruleL rls M0 = ruleRun rls f (l ++ [((p : Int), -1, (k : Int))]) (M ||| 2 ^ p) by
              rw [HF.out, ruleRun_go rls f l M k (p : Int) HD3.out]; rfl)
            have hcw := cntBits_with M 10 p hb
            rw [if_pos (by omega)] at hcw
            have hclt := cntBits_lt M 10 p (by omega) hb
            have hMp : M ||| 2 ^ p < 2 ^ 10 := Nat.or_lt_two_pow hMl (two_pow_lt (by omega))
            have HWm := hid (with_mask M p · (by omega) (by omega))
            unfold OwnS at hS2
            go_wp2_with fail
            refine (HM.out _).mono ?_
            rintro e w' ⟨rfl, rfl⟩
            rw [hb]
            go_wp2_with fail
            refine (HAl.out _ hA2).mono ?_
            rintro e w' ⟨rfl, rfl⟩
            rw [hsb]
            have hS0 := hS
            unfold OwnS at hS0
            have e1 : (wr.alloc (.cells #[.slice A xs.length c, .int .i64 (p : Int)] 55)).cell? ⟨wr.heap.size, 1, none⟩ = some (.int .i64 (p : Int)) := by go_simp
            have hsz := hB.size
            clear hb hsb hS
            go_wp2_with (at_builtin; refine wpList_append_own _ rfl _ _ 42 rfl w.heap.size 53 i0 (.agg #[.int .i64 0, .int .i64 0, .int .i64 0]) 3 24 Try.underlying42 hinf hz0 hz1 hz2 rfl (by decide) _ _ _ rfl (hS2.alloc _) ⟨wr.heap.size + 1, 0, none⟩ 1 1 [.int .i64 (p : Int), .int .i64 (-1), .int .i64 (k : Int)] rfl rfl ?c1 ?c2 ?c3 ?c4 ?c5 ?_)
            case c1 =>
              have := World.news_of_block (cs := #[.int .i64 (p : Int), .int .i64 (-1), .int .i64 (k : Int)]) (t := 53) (fr := (0, 0)) (heap_alloc_new (wr.alloc (.cells #[.slice A xs.length c, .int .i64 (p : Int)] 55)) (.cells #[.int .i64 (p : Int), .int .i64 (-1), .int .i64 (k : Int)] 53))
              simpa using this
            case c2 => simp [Value.oneCell']
            case c3 => unfold maxLen; omega
            case c4 => omega
            case c5 => simp; omega
            intro v' w6 hown2 hgrow _
            have hnb : ∀ q, some q = u5.ownBlock → w.heap.size ≤ q ∧ q < wr.heap.size := fun q hq => hS0.lt q hq.symm
            have p6 := (hB2.alloc hB2.size _).grown hgrow (by simp; omega) (fun q hq => (hnb q hq.symm).1)
            have e2 := hgrow.cell ((World.cell?_alloc_past _ _ _ (by simp)).trans e1) (fun hq => by have := (hnb _ hq).2; simp at this)
            have g6 : wr.heap.size < w6.heap.size := by have := hgrow.size; simp at this; omega
            clear hgrow hS2 e1 hS0 hnb
            go_wp2_with fail
            refine (HWm.out _).mono ?_
            rintro e w' ⟨rfl, rfl⟩
            go_wp2
            go_roundg f
            case rel =>
              refine ⟨l ++ [((p : Int), -1, (k : Int))], M ||| 2 ^ p, rfl, hMp, ?_, ?_, ?_, HF2, ?_, p6⟩
              · unfold OwnS; rw [stepCells_snoc]; simpa using hown2
              · intro s hs
                rcases List.mem_append.1 hs with hs | hs
                · exact hok s hs
                · simp at hs; subst hs; exact ⟨by dsimp only; omega, by dsimp only; omega⟩
              · simp; omega
              · omega
            all_goals omega
      · obtain rfl : k = rls.length := by omega
        have HD3 := hid (show findRule M rls 0 = none by rw [HD.out, List.drop_of_length_le (Nat.le_refl _)]; rfl)
        have HF2 := hid (show ruleL rls M0 = l by rw [HF.out, ruleRun_stop rls _ l M HD3.out])
        obtain ⟨A, c, rfl⟩ := hS.sl
        go_wp2
        try rw [Exit.noGoto_ret]
        go_ret
        refine ⟨⟨hB, A, c, by rw [HF2.out]; rfl, by rw [HF2.out]; exact hS⟩, by rw [HF2.out]; exact hok, by rw [HF2.out]; omega⟩

theorem closL_lt {rls : List RuleL} {M : Nat} (hok : StepsOk 10 (ruleL rls M)) (hM : M < 2 ^ 10) : propsL (ruleL rls M) < 2 ^ 10 ∧ closL rls M < 2 ^ 10 := by
  have h := propsL_lt 10 (ruleL rls M) (fun s hs => by have := hok s hs; omega)
  exact ⟨h, Nat.or_lt_two_pow hM h⟩

set_option maxRecDepth 100000 in
set_option maxHeartbeats 2000000 in
theorem closure_any (P : Int) (a : Option Addr) (rls : List RuleL) (cap : Nat) (M0 : Nat) (w : World) (h : RulesAt w a rls) (hP : P ≤ 10) (hl : rls.length ≤ 16) (hr : rulesE P rls = 0) (hM : M0 < 2 ^ 10) :
  Calls Try.prog 61 #[.slice a rls.length cap, .int .u64 M0] w (fun en w' => Below w.heap.size w w' ∧ closL rls M0 < 2 ^ 10 ∧ en = .returned (.int .u64 (closL rls M0))) := by
  go_enter Try.func61, Try.ntmps61
  go_wp2_with fail
  refine (ruleSteps_any P a rls cap M0 w h hP hl hr hM).mono ?_
  rintro e w1 ⟨⟨q1, A, c, rfl, hS⟩, hok, hlen⟩
  have hst := hS.at_ (by omega)
  have hlt := closL_lt hok hM
  have HO := hid (or_bits M0 (propsL (ruleL rls M0)) (by omega) (by omega))
  go_wp2_with fail
  refine (propsOf_any _ _ _ _ hst (fun s hs => by have := hok s hs; omega)).mono ?_
  rintro e w2 ⟨q2, rfl⟩
  go_wp2
  go_ret
  exact ⟨q1.trans (q2.mono q1.size), hlt.2, ret_int HO.out⟩

end Go.Proofs.Ytdgleicpcjfnoaa
