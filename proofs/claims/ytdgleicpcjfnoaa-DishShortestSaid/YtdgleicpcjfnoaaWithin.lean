/- Rows of rules that share their lists with older memory; within of the document. -/
import Derived.Test.YtdgleicpcjfnoaaRBools
import Derived.Test.YtdgleicpcjfnoaaShortM
import Derived.Test.YtdgleicpcjfnoaaRCopyR
/- bits of the document. -/
set_option linter.unusedVariables false
namespace Go.Proofs.Ytdgleicpcjfnoaa
open Go.RowKit

theorem bits_stop {n j : Nat} (h : ¬ 0 < n / 2 ^ j) (hj : j ≤ 64) : bitsTo n j = bitsTo n 64 := by
  have h1 : n / 2 ^ j = 0 := Nat.eq_zero_of_not_pos h
  have h2 : n < 2 ^ j := by
    rcases Nat.lt_or_ge n (2 ^ j) with g | g
    · exact g
    · have := Nat.div_pos g (Nat.two_pow_pos j); omega
  exact bitsTo_P h2 hj
theorem has_bits_i (M x : Nat) (hM : M < 1073741824) : (bits .and .i64 ((M : Int) / 2 ^ x) 1 == 1) = M.testBit x := by
  have e : ((M : Int) / 2 ^ x) = ((M / 2 ^ x : Nat) : Int) := by simp
  have h1 : M / 2 ^ x ≤ M := Nat.div_le_self _ _
  rw [e, show (1 : Int) = ((1 : Nat) : Int) from rfl, i64_and_n _ _ (by omega) (by decide), Nat.and_one_is_mod]
  exact bit_test M x
set_option maxRecDepth 100000 in
set_option maxHeartbeats 2000000 in
theorem bitsR_any (n : Nat) (w : World) (hn : n < 1073741824) :
  Calls Try.prog 76 #[.int .i64 n] w (OwnRs w w.heap.size (bitsTo n 64)) := by
  obtain ⟨i0, hi, hz0, hz1, hz2⟩ := info_parts int_info
  go_enter Try.func76, Try.ntmps76
  go_wp2
  go_loopw [3, 4] (fun o i wr => ∃ j : Nat, j ≤ 31 ∧ i = .int .i64 j ∧ wr.ownsRow w.heap.size 3 1 o (bitsTo n j).length ((bitsTo n j).map (Value.int .i64)) ∧ Below w.heap.size w wr) (fun _ i _ => 31 - (intOf i).toNat)
  case atStart => exact ⟨0, Nat.zero_le _, rfl, ⟨rfl, .inl ⟨rfl, rfl⟩⟩, Below.refl _ _⟩
  case round =>
    obtain ⟨j, hj, rfl, hown, hB⟩ := hrel
    have e1 : ((n : Int) / 2 ^ j) = ((n / 2 ^ j : Nat) : Int) := by simp
    by_cases hlt : 0 < n / 2 ^ j
    · have hj31 : j < 31 := by
        rcases Nat.lt_or_ge j 31 with g | g
        · exact g
        · exfalso
          have h1 : 2 ^ 31 ≤ 2 ^ j := Nat.pow_le_pow_right (by omega) g
          have h2 : n / 2 ^ j = 0 := Nat.div_eq_of_lt (by omega)
          omega
      have hlen := bitsTo_len n j
      have hpos : 0 < (n : Int) / 2 ^ j := by rw [e1]; exact_mod_cast hlt
      have hbit := has_bits_i n j hn
      cases hb : n.testBit j with
      | true =>
        have HT := hid (show bitsTo n (j + 1) = bitsTo n j ++ [(j : Int)] by rw [bitsTo, if_pos hb])
        generalize bitsTo n j = pre at *
        rw [hb] at hbit
        clear hb e1 hlt
        go_wp2_with (at_builtin; refine wpList_append_own _ rfl _ _ 32 rfl w.heap.size 3 i0 (.int .i64 0) 1 8 Try.underlying32 hi hz0 hz1 hz2 rfl (by decide) _ _ _ rfl (hown.alloc _) ⟨wr.heap.size, 0, none⟩ 1 1 [.int .i64 (j : Int)] rfl rfl ?c1 ?c2 ?c3 ?c4 ?c5 ?_)
        case c1 => exact cell_one_new _ _ _
        case c2 => simp [Value.oneCell']
        case c3 => unfold maxLen; omega
        case c4 => omega
        case c5 => have := hB.size; simp; omega
        intro v' w4 hown2 hgrow _
        have p4 := (hB.alloc hB.size _).grown hgrow (by have := hB.size; simp; omega) (fun q hq => by have := (hown.lt q hq).1; omega)
        clear hgrow hown
        go_wp2
        go_roundw
        case rel => exact ⟨j + 1, by omega, by go_num, by rw [HT.out]; simpa using hown2, p4⟩
        case measure => simp [intOf]; omega
      | false =>
        have HT := hid (show bitsTo n (j + 1) = bitsTo n j by rw [bitsTo, if_neg (by simp [hb])]; simp)
        generalize bitsTo n j = pre at *
        rw [hb] at hbit
        clear hb e1 hlt
        go_wp2
        go_roundw
        case rel => exact ⟨j + 1, by omega, by go_num, by rw [HT.out]; exact hown, hB⟩
        case measure => simp [intOf]; omega
    · have HE := hid (bits_stop hlt (by omega))
      have hneg : ¬ 0 < (n : Int) / 2 ^ j := by rw [e1]; exact_mod_cast hlt
      rw [HE.out] at hown
      have hown' : Own wr w.heap.size u3 (bitsTo n 64) := hown
      clear hown e1 hlt HE
      obtain ⟨A, c, rfl⟩ : ∃ A c, u3 = .slice A (bitsTo n 64).length c := by
        rcases hown'.2 with ⟨hv, hn⟩ | ⟨g, c, cur, hv, _⟩
        · exact ⟨none, 0, by rw [hv, hn]⟩
        · exact ⟨_, _, hv⟩
      have HOw := hid hown'
      clear hown'
      generalize bitsTo n 64 = l at *
      go_wp2
      go_ret
      exact ⟨hB, A, c, rfl, HOw.out⟩
end Go.Proofs.Ytdgleicpcjfnoaa
set_option linter.unusedVariables false
set_option linter.unusedSimpArgs false
namespace Go.Proofs.Ytdgleicpcjfnoaa
open Go.RowKit

/-- A row of rules of the call's own, whose lists lie in the world w0. -/
def RowW (w0 w : World) (base : Nat) (l : List RuleL) (v : Value) : Prop :=
  ∃ cl : List Value, w.ownsRow base 55 2 v l.length cl ∧ ∀ i, i < l.length → ∃ A c, cl[i * 2]? = some (.slice A (l[i]?.getD ([], 0)).1.length c) ∧ cl[i * 2 + 1]? = some (.int .i64 (l[i]?.getD ([], 0)).2) ∧ Ints w0 A (l[i]?.getD ([], 0)).1 ∧ (-9223372036854775808 ≤ (l[i]?.getD ([], 0)).2 ∧ (l[i]?.getD ([], 0)).2 ≤ 9223372036854775807)
theorem RowW.nil (w0 w : World) (base : Nat) : RowW w0 w base [] (.slice none 0 0) := ⟨[], ⟨rfl, .inl ⟨rfl, rfl⟩⟩, fun i hi => by simp at hi⟩
theorem RowW.below {w0 w w' : World} {base : Nat} {l : List RuleL} {v : Value} (h : RowW w0 w base l v) (hb : Below w.heap.size w w') : RowW w0 w' base l v := by
  obtain ⟨cl, h1, h2⟩ := h
  exact ⟨cl, own_below h1 hb, h2⟩
theorem RowW.lt {w0 w : World} {base : Nat} {l : List RuleL} {v : Value} (h : RowW w0 w base l v) : ∀ q, v.ownBlock = some q → base ≤ q ∧ q < w.heap.size := by
  obtain ⟨cl, h1, _⟩ := h
  exact fun q hq => h1.lt q hq
theorem RowW.sl {w0 w : World} {base : Nat} {l : List RuleL} {v : Value} (h : RowW w0 w base l v) : ∃ A c, v = .slice A l.length c ∧ (∀ ad, A = some ad → base ≤ ad.block) ∧ l.length ≤ c := by
  obtain ⟨cl, h1, _⟩ := h
  rcases h1.2 with ⟨hv, hn⟩ | ⟨g, c, cur, hv, hg, _, hc, _⟩
  · exact ⟨none, 0, by rw [hv, hn], (fun ad h => by cases h), by omega⟩
  · exact ⟨_, c, hv, fun ad h => by cases h; exact hg, hc⟩
theorem RowW.at_ {w0 w : World} {base : Nat} {l : List RuleL} {A : Option Addr} {c : Nat} (h : RowW w0 w base l (.slice A l.length c)) (hb : Below w0.heap.size w0 w) (hl : l.length ≤ 140737488355328) : RulesAt w A l := by
  obtain ⟨cl, ho, hc⟩ := h
  refine ⟨hl, ?_⟩
  rcases ho.2 with ⟨hv, hn⟩ | ⟨g, c', cur, hv, hg, _⟩
  · exact .inl (List.eq_nil_of_length_eq_zero hn)
  · simp only [Value.slice.injEq] at hv
    obtain ⟨rfl, _, rfl⟩ := hv
    refine .inr ⟨g, 0, rfl, fun i hi => ?_⟩
    obtain ⟨B, d, h1, h2, h3, h4⟩ := hc i hi
    exact ⟨B, d, by rw [Nat.zero_add]; exact row_cells ho _ _ h1, by rw [Nat.zero_add]; exact row_cells ho _ _ h2, h3.below hb, h4⟩
/-- One rule more. -/
theorem RowW.push {w0 w4 : World} {base : Nat} {l : List RuleL} {v' : Value} {cl : List Value} (hcl : cl.length = l.length * 2)
    (hc : ∀ i, i < l.length → ∃ A c, cl[i * 2]? = some (.slice A (l[i]?.getD ([], 0)).1.length c) ∧ cl[i * 2 + 1]? = some (.int .i64 (l[i]?.getD ([], 0)).2) ∧ Ints w0 A (l[i]?.getD ([], 0)).1 ∧ (-9223372036854775808 ≤ (l[i]?.getD ([], 0)).2 ∧ (l[i]?.getD ([], 0)).2 ≤ 9223372036854775807))
    {A : Option Addr} {c : Nat} {xs : List Int} {t : Int} (hA : Ints w0 A xs) (hbd : -9223372036854775808 ≤ t ∧ t ≤ 9223372036854775807)
    (ho : w4.ownsRow base 55 2 v' (l.length + 1) (cl ++ [.slice A xs.length c, .int .i64 t])) : RowW w0 w4 base (l ++ [(xs, t)]) v' := by
  refine ⟨_, by rw [List.length_append]; exact ho, fun i hi => ?_⟩
  rw [List.length_append] at hi
  simp only [List.length_cons, List.length_nil, Nat.zero_add] at hi
  by_cases hlt : i < l.length
  · obtain ⟨B, d, e1, e2, e3, e4⟩ := hc i hlt
    rw [List.getElem?_append_left hlt]
    exact ⟨B, d, by rw [List.getElem?_append_left (by omega)]; exact e1, by rw [List.getElem?_append_left (by omega)]; exact e2, e3, e4⟩
  · obtain rfl : i = l.length := by omega
    rw [List.getElem?_append_right (Nat.le_refl _), Nat.sub_self]
    refine ⟨A, c, ?_, ?_, hA, hbd⟩
    · rw [List.getElem?_append_right (by omega), hcl, Nat.sub_self]; rfl
    · rw [List.getElem?_append_right (by omega), hcl, show l.length * 2 + 1 - l.length * 2 = 1 by omega]; rfl

def RulesV (w : World) (l : List RuleL) (en : Ending) (w' : World) : Prop := Below w.heap.size w w' ∧ ∃ A c, en = .returned (.slice A l.length c) ∧ RulesAt w' A l ∧ (∀ ad, A = some ad → w.heap.size ≤ ad.block)
/-- The rules of the first k that lie in a set. -/
theorem within_take (rls : List RuleL) (M k : Nat) (h : k < rls.length) : withinL (rls.take (k + 1)) M = withinL (rls.take k) M ++ (if M.testBit (rls[k]?.getD ([], 0)).2.toNat && allM M (rls[k]?.getD ([], 0)).1 then [rls[k]?.getD ([], 0)] else []) := by
  rw [List.take_succ_eq_append_getElem h]
  unfold withinL
  rw [List.filter_append, List.getElem?_eq_getElem h]
  congr 1
  simp [List.filter_cons]
theorem within_len (rls : List RuleL) (M : Nat) : (withinL rls M).length ≤ rls.length := List.length_filter_le _ _

set_option maxRecDepth 100000 in
set_option maxHeartbeats 4000000 in
theorem withinR_any (a : Option Addr) (rls : List RuleL) (cap : Nat) (ka : Option Addr) (P M kc : Nat) (w : World) (h : RulesAt w a rls) (hk : BoolsAt w ka P M) (hP : P ≤ 10) (hr : RulesP P rls) (hl : rls.length ≤ 1000) :
  Calls Try.prog 78 #[.slice a rls.length cap, .slice ka P kc] w (RulesV w (withinL rls M)) := by
  obtain ⟨i0, hinf, hz0, hz1, hz2⟩ := info_parts rule_info
  have HH := hid h
  have HR := hid (fun k (hk : k < rls.length) => hr _ (getRule_mem rls k hk))
  have HKb := hid (fun w' (hb : Below w.heap.size w w') => hk.below hb)
  have HLn := hid (fun k => within_len (rls.take k) M)
  clear h hr hk
  go_enter Try.func78, Try.ntmps78
  go_wp2
  go_loopw [5, 6] (fun v i wr => ∃ k : Nat, k ≤ rls.length ∧ i = .int .i64 k ∧ Hid (RowW w wr w.heap.size (withinL (rls.take k) M) v) ∧ Hid (Below w.heap.size w wr)) (fun _ i _ => rls.length - (intOf i).toNat)
  case atStart => exact ⟨0, Nat.zero_le _, rfl, RowW.nil _ _ _, Below.refl _ _⟩
  case round =>
    obtain ⟨k, hk, rfl, HRow, HB⟩ := hrel
    by_cases hlt : k < rls.length
    · rcases (HH.out).at_ with e | ⟨b, off, rfl, hc⟩
      · rw [e] at hlt; simp at hlt
      obtain ⟨A, c, c0, c1, hA, hbd⟩ := hc k hlt
      obtain ⟨hs1, hs2, hs3⟩ := HR.out k hlt
      have HT := hid (within_take rls M k hlt)
      have hln := HLn.out k
      have hlk : (rls.take k).length ≤ k := by rw [List.length_take]; omega
      have c0 := (HB.out.cell (cell_lt c0)).trans c0
      have c1 := (HB.out.cell (cell_lt c1)).trans c1
      have HAl := hid (fun (kb ko : Nat) (e : ka = some ⟨kb, ko, none⟩) => all_any ka P M kc A _ c wr (HKb.out _ HB.out) (hA.below HB.out) hs1 (by omega))
      clear hc
      generalize rls[k]?.getD ([], 0) = r at *
      obtain ⟨xs, t⟩ := r
      dsimp only at c0 c1 hbd hA hs1 hs2 hs3 HT HAl
      obtain ⟨m, rfl⟩ := Int.eq_ofNat_of_zero_le hs2
      rw [Int.toNat_natCast] at HT
      have hmP : m < P := by omega
      rcases (HKb.out _ HB.out).at_ with e | ⟨kb, ko, rfl, hcb⟩
      · omega
      have d0 := hcb m hmP
      have HAl := hid (HAl.out kb ko rfl)
      generalize withinL (rls.take k) M = pre at *
      generalize hdv : allM M xs = dv at *
      have hk0 : (0 : Int) ≤ (k : Int) := by omega
      have hk1 : (k : Int) < (rls.length : Int) := by omega
      have HAx := hid hA
      clear hcb hA hdv hs1
      cases hb : M.testBit m with
      | false =>
        have HT2 := hid (show withinL (rls.take (k + 1)) M = pre by rw [HT.out, hb]; simp)
        rw [hb] at d0
        clear hb HT HAl
        go_wp2
        go_roundw
        case rel => exact ⟨k + 1, by omega, by go_num, by rw [HT2.out]; exact HRow.out, HB⟩
        case measure => simp [intOf]; omega
      | true =>
        rw [hb] at d0
        cases dv with
        | false =>
          have HT2 := hid (show withinL (rls.take (k + 1)) M = pre by rw [HT.out, hb]; simp)
          clear hb HT
          go_wp2_with fail
          refine HAl.out.mono ?_
          rintro e w2 ⟨rfl, rfl⟩
          go_wp2
          go_roundw
          case rel => exact ⟨k + 1, by omega, by go_num, by rw [HT2.out]; exact HRow.out, HB⟩
          case measure => simp [intOf]; omega
        | true =>
          have HT2 := hid (show withinL (rls.take (k + 1)) M = pre ++ [(xs, (m : Int))] by rw [HT.out, hb]; rfl)
          clear hb HT
          go_wp2_with fail
          refine HAl.out.mono ?_
          rintro e w2 ⟨rfl, rfl⟩
          obtain ⟨cl, hrow, HC'⟩ := HRow.out
          have HC := hid HC'
          have hcl : cl.length = pre.length * 2 := hrow.1
          clear HC'
          go_wp2_with (at_builtin; refine wpList_append_own _ rfl _ _ 23 rfl w.heap.size 55 i0 (.agg #[.slice none 0 0, .int .i64 0]) 2 32 Try.underlying23 hinf hz0 hz1 hz2 rfl (by decide) _ _ _ rfl (hrow.alloc _) ⟨wr.heap.size, 0, none⟩ 1 1 [.slice A xs.length c, .int .i64 (m : Int)] rfl rfl ?c1 ?c2 ?c3 ?c4 ?c5 ?_)
          case c1 => exact World.news_of_block (cs := #[.slice A xs.length c, .int .i64 (m : Int)]) (t := 55) (fr := (0, 0)) (heap_alloc_new wr _)
          case c2 => simp [Value.oneCell']
          case c3 => unfold maxLen; omega
          case c4 => omega
          case c5 => have := HB.out.size; simp; omega
          intro v' w4 hown2 hgrow _
          have p4 := (HB.out.alloc HB.out.size _).grown hgrow (by have := HB.out.size; simp; omega) (fun q hq => by have := (hrow.lt q hq).1; omega)
          have HN := hid (RowW.push hcl HC.out HAx.out hbd hown2)
          have P4 := hid p4
          clear hgrow hrow hown2 p4
          go_wp2
          go_roundw
          case rel => exact ⟨k + 1, by omega, by go_num, by rw [HT2.out]; exact HN.out, P4⟩
          case measure => simp [intOf]; omega
    · obtain rfl : k = rls.length := by omega
      rw [List.take_length] at HRow
      have hln := HLn.out rls.length
      rw [List.take_length] at hln
      obtain ⟨A, c, rfl, hfr, _⟩ := HRow.out.sl
      have HR2 := hid (HRow.out.at_ HB.out (by omega))
      have HFr := hid hfr
      clear hfr
      go_wp2
      go_ret
      exact ⟨HB.out, A, c, rfl, HR2.out, HFr.out⟩
end Go.Proofs.Ytdgleicpcjfnoaa
