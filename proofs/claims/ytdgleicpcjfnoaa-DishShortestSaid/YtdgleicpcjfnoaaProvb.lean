/- provable of package dish: which sets right steps reach. -/
import Derived.Test.YtdgleicpcjfnoaaShortM
import Derived.Test.YtdgleicpcjfnoaaBook
import Derived.Test.YtdgleicpcjfnoaaMask
import Derived.Test.YtdgleicpcjfnoaaExplain
import Derived.Test.YtdgleicpcjfnoaaRSets
import Derived.Test.YtdgleicpcjfnoaaProofS
import Derived.Test.YtdgleicpcjfnoaaClosureE
/- given of package dish. -/
set_option linter.unusedVariables false
namespace Go.Proofs.Ytdgleicpcjfnoaa
open Go.RowKit

theorem giveTo_lt (rls : List RuleL) (M P : Nat) (h : ∀ r ∈ rls, 0 ≤ r.2 ∧ r.2 < (P : Int)) (k : Nat) (hk : k ≤ rls.length) : giveTo rls M k < 2 ^ P := by
  induction k with
  | zero => exact Nat.two_pow_pos _
  | succ k ih =>
    rw [giveTo]
    have := h _ (getRule_mem rls k hk)
    split
    · exact Nat.or_lt_two_pow (ih (by omega)) (Nat.pow_lt_pow_right (by omega) (by omega))
    · exact ih (by omega)
set_option maxRecDepth 100000 in
set_option maxHeartbeats 2000000 in
theorem given_any (P : Nat) (a : Option Addr) (rls : List RuleL) (cap : Nat) (M : Nat) (w : World) (h : RulesAt w a rls) (hP : P ≤ 10) (hr : RulesP P rls) (hM : M < 18446744073709551616) :
  Calls Try.prog 101 #[.slice a rls.length cap, .int .u64 M] w (fun en w' => Below w.heap.size w w' ∧ en = .returned (.int .u64 (giveL rls M))) := by
  have hlen := h.len
  have HH := hid (fun w' (hb : Below w.heap.size w w') => h.below hb)
  have HR := hid (fun k (hk : k < rls.length) => hr _ (getRule_mem rls k hk))
  have HLt := hid (fun k (hk : k ≤ rls.length) => giveTo_lt rls M P (fun r h => (hr r h).2) k hk)
  have HG := hid (show giveL rls M = giveTo rls M rls.length from rfl)
  have hP10 : 2 ^ P ≤ 1024 := Nat.pow_le_pow_right (by omega) hP
  clear h hr
  go_enter Try.func101, Try.ntmps101
  go_wp2
  go_loopw [5, 10] (fun v i wr => ∃ k : Nat, k ≤ rls.length ∧ i = .int .i64 k ∧ v = .int .u64 (giveTo rls M k) ∧ Hid (Below w.heap.size w wr)) (fun _ i _ => rls.length - (intOf i).toNat)
  case atStart => exact ⟨0, Nat.zero_le _, rfl, rfl, Below.refl _ _⟩
  case round =>
    obtain ⟨k, hk, rfl, rfl, HB⟩ := hrel
    by_cases hlt : k < rls.length
    · rcases (HH.out _ HB.out).at_ with e | ⟨b, off, rfl, hc⟩
      · rw [e] at hlt; simp at hlt
      obtain ⟨A, c, c0, c1, hA, hbd⟩ := hc k hlt
      obtain ⟨hs1, hs2, hs3⟩ := HR.out k hlt
      have hglt := HLt.out k (by omega)
      have HS := hid (show giveTo rls M (k + 1) = if (rls[k]?.getD ([], 0)).1.all (fun x => M.testBit x.toNat) then giveTo rls M k ||| 2 ^ (rls[k]?.getD ([], 0)).2.toNat else giveTo rls M k from rfl)
      have hsm : Small 64 (rls[k]?.getD ([], 0)).1 := fun x hx => by have := hs1 x hx; omega
      have HSb := hid (show subB (rls[k]?.getD ([], 0)).1 M = (rls[k]?.getD ([], 0)).1.all (fun x => M.testBit x.toNat) by rw [Bool.eq_iff_iff, subB_iff _ M hsm hM]; simp)
      have HHa := hid (fun w' (hb : Below wr.heap.size wr w') => hasAll_mask M A _ c w' (hA.below hb) hsm hM)
      clear hc hsm hs1 hA
      generalize rls[k]?.getD ([], 0) = r at *
      obtain ⟨xs, t⟩ := r
      dsimp only at c0 c1 hbd hs2 hs3 HS HSb HHa
      rw [← HSb.out] at HS
      generalize subB xs M = sb at *
      obtain ⟨m, rfl⟩ := Int.eq_ofNat_of_zero_le hs2
      rw [Int.toNat_natCast] at HS
      generalize hgk : giveTo rls M k = G at *
      have HGk := hid hgk
      clear hgk HSb
      have HWi := hid (fun w' => with_mask G m w' (by omega) (by omega))
      have hk0 : (0 : Int) ≤ (k : Int) := by omega
      have hk1 : (k : Int) < (rls.length : Int) := by omega
      have hB1 : Below wr.heap.size wr (wr.alloc (.cells #[.slice A xs.length c, .int .i64 (m : Int)] 55)) := (Below.refl _ _).alloc (Nat.le_refl _) _
      have HB1 := hid hB1
      have HB2 := hid (HB.out.trans (hB1.mono HB.out.size))
      clear hB1 HB
      cases sb with
      | true =>
        have HS2 := hid ((HS.out).trans (if_pos rfl))
        clear HS
        go_wp2_with fail
        refine (HHa.out _ HB1.out).mono ?_
        rintro e w2 ⟨rfl, rfl⟩
        go_wp2_with fail
        refine (HWi.out _).mono ?_
        rintro e w3 ⟨rfl, rfl⟩
        go_wp2
        go_roundw
        case rel => exact ⟨k + 1, by omega, by go_num, by rw [HS2.out], HB2.out⟩
        case measure => simp [intOf]; omega
      | false =>
        have HS2 := hid ((HS.out).trans (if_neg (by simp)))
        clear HS
        go_wp2_with fail
        refine (HHa.out _ HB1.out).mono ?_
        rintro e w2 ⟨rfl, rfl⟩
        go_wp2
        go_roundw
        case rel => exact ⟨k + 1, by omega, by go_num, by rw [HS2.out], HB2.out⟩
        case measure => simp [intOf]; omega
    · obtain rfl : k = rls.length := by omega
      rw [← HG.out]
      go_wp2
      go_ret
      exact ⟨HB.out, rfl⟩
end Go.Proofs.Ytdgleicpcjfnoaa
/- bits.OnesCount of small numbers, and mask.size. -/
set_option linter.unusedVariables false
namespace Go.Proofs.Ytdgleicpcjfnoaa
open Go.RowKit

def oc1 (M : Int) : Int := IntKind.u64.wrap (bits .and .u64 (M / 2) 6148914691236517205 + bits .and .u64 M 6148914691236517205)
def oc2 (a : Int) : Int := IntKind.u64.wrap (bits .and .u64 (a / 4) 3689348814741910323 + bits .and .u64 a 3689348814741910323)
def oc3 (b : Int) : Int := bits .and .u64 (IntKind.u64.wrap (b / 16 + b)) 1085102592571150095
def oc4 (c : Int) : Int := IntKind.u64.wrap (c + c / 256)
def oc5 (d : Int) : Int := IntKind.u64.wrap (d + d / 65536)
def oc6 (e : Int) : Int := IntKind.u64.wrap (e + e / 4294967296)
def oc7 (f : Int) : Int := bits .and .i64 (wrap64 f) 127
set_option maxRecDepth 100000 in
theorem oc_all : ∀ M : Fin 1024, oc7 (oc6 (oc5 (oc4 (oc3 (oc2 (oc1 ((M.val : Nat) : Int))))))) = ((cntBits M.val 10 : Nat) : Int) := by decide +kernel
set_option maxRecDepth 100000 in
set_option maxHeartbeats 1000000 in
theorem ones64_any (M : Nat) (w : World) (hM : M < 1024) : Calls Try.prog 115 #[.int .u64 M] w fun e w' => w = w' ∧ e = .returned (.int .i64 (cntBits M 10)) := by
  have HX := hid (oc_all ⟨M, hM⟩)
  go_enter Try.func115, Try.ntmps115
  go_wp2
  go_ret
  refine ⟨rfl, congrArg (fun x => Ending.returned (.int .i64 x)) (?_ : _ = ((cntBits M 10 : Nat) : Int))⟩
  rw [← HX.out]
  rfl
set_option maxHeartbeats 1000000 in
theorem ones_any (M : Nat) (w : World) (hM : M < 1024) : Calls Try.prog 102 #[.int .u64 M] w fun e w' => w = w' ∧ e = .returned (.int .i64 (cntBits M 10)) := by
  have HX := hid (fun w => ones64_any M w hM)
  generalize cntBits M 10 = c at *
  go_enter Try.func102, Try.ntmps102
  go_wp2_with fail
  refine (HX.out _).mono ?_
  rintro e w' ⟨rfl, rfl⟩
  go_wp2
  go_ret
  exact ⟨rfl, rfl⟩
set_option maxHeartbeats 1000000 in
theorem size_mask (M : Nat) (w : World) (hM : M < 1024) : Calls Try.prog 75 #[.int .u64 M] w fun e w' => w = w' ∧ e = .returned (.int .i64 (cntBits M 10)) := by
  have HX := hid (fun w => ones_any M w hM)
  generalize cntBits M 10 = c at *
  go_enter Try.func75, Try.ntmps75
  go_wp2_with fail
  refine (HX.out _).mono ?_
  rintro e w' ⟨rfl, rfl⟩
  go_wp2
  go_ret
  exact ⟨rfl, rfl⟩
end Go.Proofs.Ytdgleicpcjfnoaa
set_option linter.unusedVariables false
set_option linter.unusedSimpArgs false
namespace Go.Proofs.Ytdgleicpcjfnoaa
open Go.RowKit

theorem shl_P (P : Nat) (hP : P ≤ 10) : wrap64 ((2 : Int) ^ P) = ((2 ^ P : Nat) : Int) := by
  have h := Nat.pow_le_pow_right (n := 2) (by omega) hP
  have e : ((2 : Int) ^ P) = ((2 ^ P : Nat) : Int) := by simp
  have h0 : (0 : Int) ≤ ((2 ^ P : Nat) : Int) := Int.natCast_nonneg _
  rw [e]
  generalize 2 ^ P = N at *
  unfold wrap64
  omega
theorem ints_far {w : World} {a : Option Addr} {xs : List Int} (h : Ints w a xs) (p : Addr) (u : Value) (hp : ∀ q, a = some q → q.block ≠ p.block) : Ints (w.setCell p u) a xs := by
  refine ⟨h.len, ?_, h.bd⟩
  rcases h.at_ with e | ⟨b, off, ha, hc⟩
  · exact .inl e
  · have := hp _ ha
    dsimp only at this
    exact .inr ⟨b, off, ha, fun i hi => by rw [World.cell?_setCell_far _ _ _ _ (fun e => this e.symm)]; exact hc i hi⟩
set_option maxRecDepth 100000 in
set_option maxHeartbeats 4000000 in
theorem provb_any (P : Nat) (ia : Option Addr) (its : List ItemL) (ic : Nat) (ra : Option Addr) (rls : List RuleL) (rc : Nat) (n : Nat) (w : World) (h : BookAt w (P : Int) ia its ra rls) (hv : validB (P : Int) its rls = 0) (hn : n < its.length) :
  Calls Try.prog 73 #[.agg #[.int .i64 (P : Int), .slice ia its.length ic, .slice ra rls.length rc], .int .i64 n] w (BoolsV w (2 ^ P) (provTo rls (propsL (ownL its n)) (2 ^ P))) := by
  obtain ⟨v0, v1, v2, v3, v4, v5⟩ := validB_ok hv
  have hP : P ≤ 10 := by omega
  have S0 := ValS.made w (P : Int) (.slice ia its.length ic) (.slice ra rls.length rc)
  have HS0 := hid S0
  have HO := hid (fun (w' : World) (hb : Below w.heap.size w w') => ownSteps_any (P : Int) ia its ic (.slice ra rls.length rc) n w' (h.below hb).items v1 v2 hn v4)
  have HGv := hid (fun (M : Nat) (w' : World) (hb : Below w.heap.size w w') (hM : M < 18446744073709551616) => given_any P ra rls rc M w' (h.below hb).rules hP (rulesP_of v5) hM)
  have hON := own_lt v4 n (contL_bits (P : Int) its v4 n hn) (by omega)
  have HGl := hid (fun M => giveTo_lt rls M P (fun r hr => (rulesP_of v5 r hr).2) rls.length (Nat.le_refl _))
  have hN1 : 1 ≤ 2 ^ P := Nat.one_le_two_pow
  have hN2 : 2 ^ P ≤ 1024 := Nat.pow_le_pow_right (n := 2) (by omega) hP
  have HSh := hid (shl_P P hP)
  have HOL := hid (show ∀ M, M < 2 ^ P → ∀ p : Nat, p < P → M ||| 2 ^ p < 2 ^ P from fun M hM p hp => Nat.or_lt_two_pow hM (Nat.pow_lt_pow_right (by omega) hp))
  have HBl := hid (show ∀ M i : Nat, M < 2 ^ P → M.testBit i = true → i < P from fun M i hM hb => bit_lt hM hb)
  have HGe := hid (show ∀ A B : Nat, A < 2 ^ P → B < 2 ^ P → A ||| B < 2 ^ P from fun A B ha hb => Nat.or_lt_two_pow ha hb)
  have hOk := own_ok10 its (P : Int) n v4 v1 hn v2
  have HOk := hid hOk
  clear S0 h hv v4 v5 hOk
  generalize hOw : ownL its n = ow at *
  clear hOw
  have HPo := hid (show propsL ow = propsL ow from rfl)
  generalize hO : propsL ow = O at HGl hON HPo ⊢
  clear HPo
  have HOe := hid hO
  clear hO
  generalize hN : 2 ^ P = N at *
  clear hN
  have HMk := make_bools N (by omega)
  go_enter Try.func73, Try.ntmps73
  go_wp2_with fail
  refine (HO.out _ HS0.out.below).mono ?_
  rintro e w1 ⟨⟨q1, A1, c1, rfl, own1⟩, hok1, hfr1⟩
  have HS1 := hid (HS0.out.keep q1)
  have hst1 := hid (own1.at_ (by have := hfr1.len; omega))
  clear own1 hfr1 hok1 q1
  go_wp2_with fail
  refine (propsOf_any A1 ow c1 w1 hst1.out (steps64 HOk.out)).mono ?_
  rintro e w2 ⟨q2, rfl⟩
  have HS2 := hid (HS1.out.keep q2)
  obtain ⟨a0, a1, a2, _⟩ := id HS2.out
  clear q2 hst1 HO HS1 HS0 HOk
  rw [HOe.out]
  have hsh := HSh.out
  have hz2 := HS2.out.size
  have hO3 := own_made w2 N w2.heap.size (by omega) (Nat.le_refl _)
  have d0 : (w2.alloc (.cells (bcells 0 N).toArray 4)).cell? ⟨w2.heap.size, 0, none⟩ = some (.bool ((0 : Nat).testBit 0)) := by
    unfold OwnB at hO3
    rw [hO3.cellAt _ (by omega), bcells_at 0 N 0 (by omega)]
  have f0 : (w2.alloc (.cells (bcells 0 N).toArray 4)).frozen? ⟨w2.heap.size, 0, none⟩ = false := by unfold OwnB at hO3; exact hO3.frozenAt 0
  have hwe : (w2.alloc (.cells (bcells 0 N).toArray 4)).setCell ⟨w2.heap.size, 0, none⟩ (.bool true) = w2.alloc (.cells ((bcells 0 N).set 0 (.bool true)).toArray 4) := by go_simp
  have hO4 := hO3.set 0
  rw [hwe] at hO4
  have HO4 := hid hO4
  have hS4 := ((HS2.out.keep ((Below.refl _ _).alloc (Nat.le_refl _) (.cells (bcells 0 N).toArray 4))).setCell ⟨w2.heap.size, 0, none⟩ (.bool true) hz2)
  rw [hwe] at hS4
  have HS4 := hid hS4
  clear hwe hO4 hS4
  have h1N : 0 < N := hN1
  clear hO3
  go_wp2
  clear hsh d0 f0 a0
  go_loopw [23] (fun i wr => ∃ k : Nat, k ≤ N ∧ i = .int .i64 k ∧ OwnB wr w2.heap.size w2.heap.size N (provTo rls O k) N ∧ Hid (ValS w (P : Int) (.slice ia its.length ic) (.slice ra rls.length rc) wr)) (fun i _ => N - (intOf i).toNat)
  case atStart => exact ⟨0, Nat.zero_le _, rfl, HO4.out, HS4⟩
  case round =>
    clear HO4 HS4
    obtain ⟨k, hk, rfl, hown, HS⟩ := hrel
    by_cases hlt : k < N
    · have HPs := hid (show provTo rls O (k + 1) = if (provTo rls O k).testBit k then succTo (provTo rls O k) k (bitsTo (O ||| giveL rls k) 64) else provTo rls O k from rfl)
      have HOw := hid hown
      have d0 : wr.cell? ⟨w2.heap.size, k, none⟩ = some (.bool ((provTo rls O k).testBit k)) := by
        unfold OwnB at hown
        rw [hown.cellAt _ (by omega), bcells_at _ N k hlt]
      generalize provTo rls O k = I at *
      have hk0 : (0 : Int) ≤ (k : Int) := by omega
      have hk1 : (k : Int) < (N : Int) := by omega
      clear hown
      cases hb : I.testBit k with
      | false =>
        have HPs2 := hid ((HPs.out).trans (if_neg (by rw [hb]; simp)))
        rw [hb] at d0
        clear hb HPs
        go_wp2
        go_roundw
        case rel => exact ⟨k + 1, by omega, by go_num, by rw [HPs2.out]; exact HOw.out, HS⟩
        case measure => simp [intOf]; omega
      | true =>
        have HPs2 := hid ((HPs.out).trans (if_pos hb))
        rw [hb] at d0
        clear hb HPs
        have HGk := hid (HGv.out k wr HS.out.below (by omega))
        have hgl : giveL rls k < N := HGl.out k
        have hor := or_bits O (giveL rls k) (by omega) (by omega)
        have HUl := hid (HGe.out O (giveL rls k) hON hgl)
        obtain ⟨a0, a1, a2, _⟩ := id HS.out
        generalize giveL rls k = G at *
        go_wp2_with fail
        refine HGk.out.mono ?_
        rintro e w3 ⟨q3, rfl⟩
        have HS3 := hid (HS.out.keep q3)
        have HO3 := hid (HOw.out.below q3)
        clear q3 HGk HS HOw
        have hUl := HUl.out
        go_wp2_with fail
        refine (numbers_x (O ||| G) _ (by omega)).mono ?_
        rintro e w4 ⟨xs, Hxs, q4, A4, c4, rfl, own4⟩
        have HxL := hid (show xs.length ≤ 64 by rw [Hxs.out]; exact numsL_len _)
        have HxB := hid (show ∀ x ∈ xs, 0 ≤ x ∧ x < 64 by rw [Hxs.out]; exact numsL_small _)
        have HxP := hid (show ∀ x ∈ xs, ∃ p : Nat, x = p ∧ p < P by
          intro x hx
          rw [Hxs.out, mem_numsL] at hx
          obtain ⟨i, rfl, _, h2⟩ := hx
          exact ⟨i, rfl, HBl.out _ i hUl h2⟩)
        have HPx := hid (show succTo I k (bitsTo (O ||| G) 64) = succTo I k xs by rw [Hxs.out]; rfl)
        have hxl := HxL.out
        obtain ⟨_, _, hv4, i4⟩ := own4.ints (by omega) (fun x hx => by have := HxB.out x hx; omega)
        cases hv4
        have HS4 := hid (HS3.out.keep q4)
        have HO4 := hid (HO3.out.below q4)
        have HI4 := hid i4
        have HFa := hid (show ∀ q, A4 = some q → w2.heap.size < q.block from fun q hq => by
          rcases own4.2 with ⟨hv, _⟩ | ⟨g, cp, cur, hv, hg, _⟩
          · simp only [Value.slice.injEq] at hv
            rw [hv.1] at hq; cases hq
          · simp only [Value.slice.injEq] at hv
            rw [hv.1] at hq
            cases hq
            have := (HO3.out).lt _ rfl
            dsimp only
            omega)
        clear own4 q4 HS3 HO3 i4 Hxs
        have HR0 := hid HO4.out
        have HTk := hid (fun j (hj : j < xs.length) => (show succTo I k (xs.take (j + 1)) = succTo I k (xs.take j) ||| 2 ^ (k ||| 2 ^ (xs[j]?.getD 0).toNat) by rw [List.take_succ_eq_append_getElem hj, succTo_snoc, List.getElem?_eq_getElem hj]; rfl))
        have HTa := hid (show succTo I k (xs.take xs.length) = succTo I k xs by rw [List.take_length])
        have HMx := hid (fun j (hj : j < xs.length) => HxP.out _ (getD_mem xs j hj))
        clear HxL HxB HxP HGl HGe HBl a0 a1 a2 hor HUl hUl d0
        go_wp2
        go_loopw [41] (fun i wr2 => ∃ j : Nat, j ≤ xs.length ∧ i = .int .i64 j ∧ OwnB wr2 w2.heap.size w2.heap.size N (succTo I k (xs.take j)) N ∧ Hid (ValS w (P : Int) (.slice ia its.length ic) (.slice ra rls.length rc) wr2) ∧ Hid (Ints wr2 A4 xs)) (fun i _ => xs.length - (intOf i).toNat)
        case atStart => exact ⟨0, Nat.zero_le _, rfl, HR0.out, HS4, HI4⟩
        case round =>
          clear HR0 HS4 HI4 HO4
          obtain ⟨j, hj, rfl, hown2, HS2r, HIr⟩ := hrel
          by_cases hjl : j < xs.length
          · rcases HIr.out.at_ with e | ⟨b, off, ha, hc⟩
            · rw [e] at hjl; simp at hjl
            have hfa := HFa.out _ ha
            have HIk := hid (fun (p : Addr) (u : Value) (hp : p.block = w2.heap.size) => ints_far (HIr.out) p u (fun q hq => by have := HFa.out q hq; omega))
            subst ha
            have c0 := hc j hjl
            obtain ⟨p, hxp, hpP⟩ := HMx.out j hjl
            have HTj := hid (HTk.out j hjl)
            rw [hxp] at c0 HTj
            rw [Int.toNat_natCast] at HTj
            clear hxp hc
            have hjl0 : (0 : Int) ≤ (j : Int) := by omega
            have hjl1 : (j : Int) < (xs.length : Int) := by omega
            have hkp := HOL.out k hlt p hpP
            have HWi := hid (fun w' => with_mask k p w' (by omega) (by omega))
            generalize hK2 : k ||| 2 ^ p = K2 at *
            clear hK2
            generalize succTo I k (xs.take j) = J at *
            have d1 : wr.cell? ⟨w2.heap.size, K2, none⟩ = some (.bool (J.testBit K2)) := by
              unfold OwnB at hown2
              rw [hown2.cellAt _ (by omega), bcells_at _ N K2 hkp]
            have f1 : wr.frozen? ⟨w2.heap.size, K2, none⟩ = false := by unfold OwnB at hown2; exact hown2.frozenAt K2
            have HO5 := hid (hown2.set K2)
            have HS5 := hid (HS2r.out.setCell ⟨w2.heap.size, K2, none⟩ (.bool true) hz2)
            have HI5 := hid (HIk.out ⟨w2.heap.size, K2, none⟩ (.bool true) rfl)
            have hKN : (K2 : Int) < (N : Int) := by omega
            have hK0 : (0 : Int) ≤ (K2 : Int) := by omega
            clear hown2 HS2r HIr HIk
            go_wp2_with fail
            refine (HWi.out _).mono ?_
            rintro e w6 ⟨rfl, rfl⟩
            go_wp2
            go_roundw
            case rel => exact ⟨j + 1, by omega, by go_num, by rw [HTj.out]; exact HO5.out, HS5, HI5⟩
            case measure => simp [intOf]; omega
          · obtain rfl : j = xs.length := by omega
            rw [HTa.out] at hown2
            have HOe := hid hown2
            clear hown2
            go_wp2
            go_roundw
            case rel => exact ⟨k + 1, by omega, by go_num, by rw [HPs2.out, HPx.out]; exact HOe.out, HS2r⟩
            case measure => simp [intOf]; omega
    · obtain rfl : k = N := by omega
      have HOe := hid hown
      have HB := hid HS.out.below
      have hg := HS2.out.below.size
      clear hown
      go_wp2
      go_ret
      exact ⟨HB.out, _, _, rfl, HOe.out.at_ (by omega), fun ad h => by cases h; exact hg⟩
end Go.Proofs.Ytdgleicpcjfnoaa
