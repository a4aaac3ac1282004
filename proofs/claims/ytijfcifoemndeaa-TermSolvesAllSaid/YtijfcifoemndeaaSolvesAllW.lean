/- The law TermSolvesAll: its walk. -/
import Derived.Test.YtijfcifoemndeaaSolvesW
import Derived.Test.YtijfcifoemndeaaSolvesAllM
import Derived.Test.YtijfcifoemndeaaAppend
import Derived.Test.YtijfcifoemndeaaRows2
import Derived.Deep.AppendLies
set_option linter.unusedVariables false
namespace Go.Proofs.Ytijfcifoemndeaa
open Go.RowKit

theorem solveL_err (ls : List (Int × Int)) (h : (solveL ls).2.2.2 ≠ 0) : solveL ls = (0, 0, false, (solveL ls).2.2.2) := by
  unfold solveL at h ⊢
  split
  · rfl
  · rename_i hh; rw [if_neg hh] at h; exact absurd rfl h
theorem line_info : (Try.prog.info? 64).map (fun i => (i.zero, i.size, i.bytes)) = some (some (.agg #[.int .i64 0, .int .i64 0]), 2, 16) := by kernel_rfl
def lineCells (ls : List (Int × Int)) : List Value := ls.flatMap (fun l => [Value.int .i64 l.1, Value.int .i64 l.2])
theorem lineCells_len (ls : List (Int × Int)) : (lineCells ls).length = ls.length * 2 := by
  induction ls with
  | nil => rfl
  | cons x t ih => simp [lineCells] at ih ⊢; omega
theorem lineCells_at (ls : List (Int × Int)) (i : Nat) (h : i < ls.length) : (lineCells ls)[i * 2]? = some (.int .i64 (ls[i]?.getD (0, 0)).1) ∧ (lineCells ls)[i * 2 + 1]? = some (.int .i64 (ls[i]?.getD (0, 0)).2) := by
  induction ls generalizing i with
  | nil => simp at h
  | cons x t ih =>
    cases i with
    | zero => simp [lineCells]
    | succ i =>
      have := ih i (by simpa using h)
      have e1 : (i + 1) * 2 = i * 2 + 1 + 1 := by omega
      rw [e1]
      simpa [lineCells] using this
theorem lineCells_one (ls : List (Int × Int)) : ∀ u ∈ lineCells ls, u.oneCell' = true := by
  intro u hu
  obtain ⟨l, _, h⟩ := List.mem_flatMap.1 hu
  simp at h
  rcases h with rfl | rfl <;> rfl
theorem Lines.src {w : World} {a : Option Addr} {ls : List (Int × Int)} (h : Lines w a ls) : ls.length = 0 ∨ ∃ ad, a = some ad ∧ ∀ j u, (lineCells ls)[j]? = some u → w.cell? (ad.add j) = some u := by
  rcases h.at_ with rfl | ⟨b, off, rfl, hc⟩
  · exact .inl rfl
  · refine .inr ⟨_, rfl, fun j u hu => ?_⟩
    have hlt : j < (lineCells ls).length := (List.getElem?_eq_some_iff.1 hu).1
    rw [lineCells_len] at hlt
    have ha : (⟨b, off, none⟩ : Addr).add j = ⟨b, off + j, none⟩ := by unfold Addr.add; split <;> simp_all
    rw [ha]
    have hi : j / 2 < ls.length := by omega
    have h1 := lineCells_at ls (j / 2) hi
    have h2 := hc (j / 2) hi
    rcases Nat.mod_two_eq_zero_or_one j with hm | hm
    · have e : j / 2 * 2 = j := by omega
      rw [e] at h1 h2
      rw [h2.1, ← h1.1, hu]
    · have e : j / 2 * 2 + 1 = j := by omega
      rw [Nat.add_assoc, e] at h2
      rw [e] at h1
      rw [h2.2, ← h1.2, hu]

/-- The first k lines have the number as their rest. -/
def updL (num : Int) (k : Nat) (ls : List (Int × Int)) : List (Int × Int) := (ls.take k).map (fun l => (num, l.2)) ++ ls.drop k
theorem updL_len (num : Int) (k : Nat) (ls : List (Int × Int)) : (updL num k ls).length = ls.length := by simp [updL]; omega
theorem updL_all (num : Int) (ls : List (Int × Int)) : updL num ls.length ls = ls.map (fun l => (num, l.2)) := by simp [updL]
theorem updL_zero (num : Int) (ls : List (Int × Int)) : updL num 0 ls = ls := by simp [updL]
theorem updL_set (num : Int) (k : Nat) (ls : List (Int × Int)) (h : k < ls.length) : (lineCells (updL num k ls)).set (k * 2) (.int .i64 num) = lineCells (updL num (k + 1) ls) := by
  induction ls generalizing k with
  | nil => simp at h
  | cons x t ih =>
    cases k with
    | zero => simp [updL, lineCells]
    | succ k =>
      have := ih k (by simpa using h)
      have e1 : (k + 1) * 2 = k * 2 + 1 + 1 := by omega
      rw [e1]
      simpa [updL, lineCells] using this
theorem own_lines {w : World} {base : Nat} {v : Value} {ls : List (Int × Int)} (h : w.ownsRow base 64 2 v ls.length (lineCells ls)) (hl : ls.length ≤ 140737488355328)
    (hb : ∀ x ∈ ls, (-9223372036854775808 ≤ x.1 ∧ x.1 ≤ 9223372036854775807) ∧ -9223372036854775808 ≤ x.2 ∧ x.2 ≤ 9223372036854775807) : ∃ (a : Option Addr) (cap : Nat), v = .slice a ls.length cap ∧ Lines w a ls := by
  have h2 := h.2
  rcases h2 with ⟨hv, hn⟩ | ⟨g, cap, cur, hv, _⟩
  · exact ⟨none, 0, by rw [hv, hn], hl, .inl (List.eq_nil_of_length_eq_zero hn), hb⟩
  · subst hv
    refine ⟨_, cap, rfl, hl, .inr ⟨g, 0, rfl, fun i hi => ?_⟩, hb⟩
    have h1 := lineCells_at ls i hi
    rw [Nat.zero_add, h.cellAt _ (by omega), h.cellAt _ (by omega)]
    exact h1

set_option maxRecDepth 100000 in
set_option maxHeartbeats 4000000 in
theorem solvesAll_walk (a : Option Addr) (ls : List (Int × Int)) (cap : Nat) (num : Int) (w : World) (h1 : ls.length ≤ 9223372036854775807) (hT : ls.length ≤ 140737488355328 → Lines w a ls) (hn : -9223372036854775808 ≤ num ∧ num ≤ 9223372036854775807) :
  Calls Try.prog 13 #[.slice a ls.length cap, .int .i64 num] w (BoolR w true) := by
  by_cases hl : 100 < ls.length
  · have hl' : (100 : Int) < (ls.length : Int) := by omega
    go_enter Try.func13, Try.ntmps13
    go_wp2_with fail
    refine (known_any _).mono ?_
    rintro e w2 ⟨q2, rfl⟩
    go_wp2
    go_ret
    exact ⟨q2, rfl⟩
  · have hL := hT (by omega)
    have hl' : (ls.length : Int) ≤ 100 := by omega
    clear hT
    have hbds : ∀ x ∈ updL num ls.length ls, (-9223372036854775808 ≤ x.1 ∧ x.1 ≤ 9223372036854775807) ∧ -9223372036854775808 ≤ x.2 ∧ x.2 ≤ 9223372036854775807 := by
      rw [updL_all]
      intro x hx
      obtain ⟨y, hy, rfl⟩ := List.mem_map.1 hx
      exact ⟨hn, (hL.bd y hy).2⟩
    have HBd := hid hbds
    clear hbds
    by_cases hz : (solveL ls).2.2.2 = 0
    · have HYes := hid (fun hh => And.intro (solveL_bd ls hz hh) (solveL_yes ls hz hh))
      obtain ⟨b', m', ho1, ho2, ho3, ho4⟩ := solveL_own ls num hz
      have ho5 := solveL_bd (ls.map fun l => (num, l.2)) (by rw [ho1]) (by rw [ho1])
      rw [ho1] at ho5
      replace ho5 : m' ≤ 1099511627776 := ho5
      have HOwn := hid ho1
      clear ho1
      obtain ⟨i0, hi, hz0, hz1, hz2⟩ := info_parts line_info
      rcases hS : solveL ls with ⟨x, m, ok, er⟩
      rw [hS] at hz
      simp only at hz
      subst hz
      have HS := hid hS
      rw [hS] at HYes
      clear hS
      go_enter Try.func13, Try.ntmps13
      go_wp2_with fail
      refine (solve_any _ _ _ _ hL).mono ?_
      rintro e w1 ⟨p1, rfl⟩
      rw [HS.out]
      have hL1 := hL.below p1
      go_wp2
      go_loopw [9] (fun i wr => ∃ k : Nat, k ≤ ls.length ∧ i = .int .i64 k ∧ Below w1.heap.size w1 wr) (fun i _ => ls.length - (intOf i).toNat)
      case atStart => exact ⟨0, Nat.zero_le _, rfl, Below.refl _ _⟩
      case round =>
        obtain ⟨k, hk, rfl, hB⟩ := hrel
        by_cases hlt : k < ls.length ∧ ok = true
        · obtain ⟨hlt, rfl⟩ := hlt
          rcases hL1.at_ with e | ⟨b, off, rfl, hc⟩
          · rw [e] at hlt; simp at hlt
          have c1 := (hc k hlt).1
          have c2 := (hc k hlt).2
          have hmem := hL1.bd (ls[k]?.getD (0, 0)) (by rw [List.getElem?_eq_getElem hlt]; simp)
          obtain ⟨y0, y1, y2, y3⟩ := HYes.out rfl
          obtain ⟨z1, z2, z3, z4⟩ := y3 (ls[k]?.getD (0, 0)) (by rw [List.getElem?_eq_getElem hlt]; simp)
          clear y3 hc
          obtain ⟨hb1, hb2⟩ := bcell hB
          have hbl := cell_lt c1
          generalize ls[k]?.getD (0, 0) = l at *
          replace y0 : m ≤ 1099511627776 := y0
          replace y1 : 0 ≤ x := y1
          replace y2 : x < m := y2
          replace z3 : Int.tmod m l.2 = 0 := z3
          replace z4 : Int.tmod (x - Int.tmod l.1 l.2) l.2 = 0 := z4
          have hb := tmod_bd l.1 l.2 z1
          have t0 : decide (x < 0) = false := by simpa using y1
          have t1 : decide (m ≤ x) = false := by simpa using y2
          have t2 : (Int.tmod m l.2 != 0) = false := by simp [z3]
          have t3 : (Int.tmod (x - Int.tmod l.1 l.2) l.2 != 0) = false := by simp [z4]
          have t4 : (l.2 == 0) = false := by simp; omega
          have t5 : IntKind.i64.wrap (x - Int.tmod l.1 l.2) = x - Int.tmod l.1 l.2 := IntWalk.i64_in _ (by omega)
          have m0 : 0 ≤ m := by omega
          have m1 : 0 ≤ l.2 := by omega
          have t6 : l.2 ≠ 0 := by omega
          clear t2 t3
          go_wp2
          go_quiet (fail)
          go_wp2
          clear z3 z4 t5 t6
          go_roundw
          case rel => exact ⟨k + 1, by omega, by go_num, below_drewN hB _⟩
          case measure => simp [intOf]; omega
        · have hL2 := hL1.below hB
          have p2 := p1.trans (hB.mono p1.size)
          clear HYes hB hL1 p1 hL
          by_cases hlt2 : k < ls.length
          · obtain rfl : ok = false := by cases ok <;> simp_all
            clear hlt
            go_wp2_with (at_builtin; (refine wpList_append_src rfl _ _ 59 rfl wr.heap.size 64 i0 _ 2 16 Try.underlying59 hi hz0 hz1 hz2 rfl (by decide) _ 0 [] rfl (World.ownsRow_lit wr #[] 0 (Nat.le_refl _) (by decide) rfl) _ _ _ (lineCells ls) rfl (lineCells_len ls) ((hL2.below ((Below.refl _ _).alloc (Nat.le_refl _) _)).src) (lineCells_one ls) (by unfold maxLen; omega) (by omega) (by simp) ?_))
            intro v' w2 hown hgrow
            have p3 := (p2.alloc p2.size _).grown hgrow (by have := p2.size; simp; omega) (fun q hq => by simp [Value.ownBlock] at hq; have := p2.size; omega)
            have hwo := p2.size
            clear hgrow p2
            try simp only [Nat.zero_add, List.nil_append] at hown
            obtain ⟨A', cap', rfl⟩ : ∃ A' cap', v' = .slice A' ls.length cap' := by
              rcases hown.2 with ⟨hv, h0⟩ | ⟨g, c, cur, hv, _⟩
              · exact ⟨none, 0, by rw [hv, h0]⟩
              · exact ⟨_, _, hv⟩
            go_wp2_with fail
            obtain ⟨wo, rfl⟩ : ∃ wo : World, wo = wr := ⟨_, rfl⟩
            go_loopw [11] (fun i wx => ∃ k : Nat, k ≤ ls.length ∧ i = .int .i64 k ∧ wx.ownsRow wo.heap.size 64 2 (.slice A' ls.length cap') ls.length (lineCells (updL num k ls)) ∧ Below w.heap.size w wx) (fun i _ => ls.length - (intOf i).toNat)
            case atStart => exact ⟨0, Nat.zero_le _, rfl, by rw [updL_zero]; exact hown, p3⟩
            case round =>
              obtain ⟨q, hq, rfl, hrow, hB⟩ := hrel
              by_cases hqlt : q < ls.length
              · obtain ⟨g, c2, hv2, hg, hlt2⟩ := hrow.form (by omega)
                simp only [Value.slice.injEq] at hv2
                obtain ⟨rfl, _, rfl⟩ := hv2
                have c0 : wr.cell? ⟨g, q * 2, none⟩ = some (.int .i64 ((updL num q ls)[q]?.getD (0, 0)).1) := by
                  rw [hrow.cellAt _ (by omega)]; exact (lineCells_at _ _ (by rw [updL_len]; exact hqlt)).1
                have f0 := hrow.frozenAt (q * 2)
                generalize ((updL num q ls)[q]?.getD (0, 0)).1 = old at *
                go_wp2
                go_roundw
                case rel => exact ⟨q + 1, by omega, by go_num, by rw [← updL_set num q ls hqlt]; exact (hrow.stored (q * 2) _).1, hB.setCell (by simp; omega) _⟩
                case measure => simp [intOf]; omega
              · obtain rfl : q = ls.length := by omega
                obtain ⟨a2, cap2, hv2, hL3⟩ := own_lines (ls := updL num ls.length ls) (by rw [updL_len]; exact hrow) (by rw [updL_len]; omega) HBd.out
                rw [updL_len] at hv2
                simp only [Value.slice.injEq] at hv2
                obtain ⟨rfl, _, rfl⟩ := hv2
                have H := solve_any _ _ cap' wr hL3
                rw [updL_len, updL_all, HOwn.out] at H
                have H2 := hid H
                clear H hqlt hrow hL3
                go_wp2_with fail
                refine (H2.out).mono ?_
                rintro e w4 ⟨q4, rfl⟩
                have p4 := hB.trans (q4.mono hB.size)
                have hm0 : 0 < m' := by omega
                have hmz : m' ≠ 0 := by omega
                have hmz2 : (m' == 0) = false := by simp; omega
                have htb := tmod_bd num m' (by omega)
                go_wp2_with fail
                refine (known_any _).mono ?_
                rintro e w5 ⟨q5, rfl⟩
                go_wp2
                go_ret
                exact ⟨p4.trans (q5.mono p4.size), rfl⟩
          · clear hlt
            go_wp2_with (at_builtin; (refine wpList_append_src rfl _ _ 59 rfl wr.heap.size 64 i0 _ 2 16 Try.underlying59 hi hz0 hz1 hz2 rfl (by decide) _ 0 [] rfl (World.ownsRow_lit wr #[] 0 (Nat.le_refl _) (by decide) rfl) _ _ _ (lineCells ls) rfl (lineCells_len ls) ((hL2.below ((Below.refl _ _).alloc (Nat.le_refl _) _)).src) (lineCells_one ls) (by unfold maxLen; omega) (by omega) (by simp) ?_))
            intro v' w2 hown hgrow
            have p3 := (p2.alloc p2.size _).grown hgrow (by have := p2.size; simp; omega) (fun q hq => by simp [Value.ownBlock] at hq; have := p2.size; omega)
            have hwo := p2.size
            clear hgrow p2
            try simp only [Nat.zero_add, List.nil_append] at hown
            obtain ⟨A', cap', rfl⟩ : ∃ A' cap', v' = .slice A' ls.length cap' := by
              rcases hown.2 with ⟨hv, h0⟩ | ⟨g, c, cur, hv, _⟩
              · exact ⟨none, 0, by rw [hv, h0]⟩
              · exact ⟨_, _, hv⟩
            go_wp2_with fail
            obtain ⟨wo, rfl⟩ : ∃ wo : World, wo = wr := ⟨_, rfl⟩
            go_loopw [11] (fun i wx => ∃ k : Nat, k ≤ ls.length ∧ i = .int .i64 k ∧ wx.ownsRow wo.heap.size 64 2 (.slice A' ls.length cap') ls.length (lineCells (updL num k ls)) ∧ Below w.heap.size w wx) (fun i _ => ls.length - (intOf i).toNat)
            case atStart => exact ⟨0, Nat.zero_le _, rfl, by rw [updL_zero]; exact hown, p3⟩
            case round =>
              obtain ⟨q, hq, rfl, hrow, hB⟩ := hrel
              by_cases hqlt : q < ls.length
              · obtain ⟨g, c2, hv2, hg, hlt2⟩ := hrow.form (by omega)
                simp only [Value.slice.injEq] at hv2
                obtain ⟨rfl, _, rfl⟩ := hv2
                have c0 : wr.cell? ⟨g, q * 2, none⟩ = some (.int .i64 ((updL num q ls)[q]?.getD (0, 0)).1) := by
                  rw [hrow.cellAt _ (by omega)]; exact (lineCells_at _ _ (by rw [updL_len]; exact hqlt)).1
                have f0 := hrow.frozenAt (q * 2)
                generalize ((updL num q ls)[q]?.getD (0, 0)).1 = old at *
                go_wp2
                go_roundw
                case rel => exact ⟨q + 1, by omega, by go_num, by rw [← updL_set num q ls hqlt]; exact (hrow.stored (q * 2) _).1, hB.setCell (by simp; omega) _⟩
                case measure => simp [intOf]; omega
              · obtain rfl : q = ls.length := by omega
                obtain ⟨a2, cap2, hv2, hL3⟩ := own_lines (ls := updL num ls.length ls) (by rw [updL_len]; exact hrow) (by rw [updL_len]; omega) HBd.out
                rw [updL_len] at hv2
                simp only [Value.slice.injEq] at hv2
                obtain ⟨rfl, _, rfl⟩ := hv2
                have H := solve_any _ _ cap' wr hL3
                rw [updL_len, updL_all, HOwn.out] at H
                have H2 := hid H
                clear H hqlt hrow hL3
                go_wp2_with fail
                refine (H2.out).mono ?_
                rintro e w4 ⟨q4, rfl⟩
                have p4 := hB.trans (q4.mono hB.size)
                have hm0 : 0 < m' := by omega
                have hmz : m' ≠ 0 := by omega
                have hmz2 : (m' == 0) = false := by simp; omega
                have htb := tmod_bd num m' (by omega)
                go_wp2_with fail
                refine (known_any _).mono ?_
                rintro e w5 ⟨q5, rfl⟩
                go_wp2
                go_ret
                exact ⟨p4.trans (q5.mono p4.size), rfl⟩
    · have hS := solveL_err ls hz
      generalize (solveL ls).2.2.2 = er at *
      have hz' : (er != 0) = true := by simp [hz]
      have HS := hid hS
      clear hS hz
      go_enter Try.func13, Try.ntmps13
      go_wp2_with fail
      refine (solve_any _ _ _ _ hL).mono ?_
      rintro e w1 ⟨p1, rfl⟩
      rw [HS.out]
      go_wp2_with fail
      refine (known_any _).mono ?_
      rintro e w5 ⟨q5, rfl⟩
      go_wp2
      go_ret
      exact ⟨p1.trans (q5.mono p1.size), rfl⟩

end Go.Proofs.Ytijfcifoemndeaa
