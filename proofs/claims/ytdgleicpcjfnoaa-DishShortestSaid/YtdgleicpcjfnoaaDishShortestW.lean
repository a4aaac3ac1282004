/- The law DishShortest: its walk. -/
import Derived.Test.YtdgleicpcjfnoaaShortN
import Derived.Test.YtdgleicpcjfnoaaShortR
set_option linter.unusedVariables false
set_option linter.unusedSimpArgs false
namespace Go.Proofs.Ytdgleicpcjfnoaa
open Go.RowKit

set_option maxRecDepth 100000 in
set_option maxHeartbeats 8000000 in
theorem dishShortest_walk (P : Int) (ia : Option Addr) (its : List ItemL) (ic : Nat) (ra : Option Addr) (rls : List RuleL) (rc : Nat) (item prop : Int) (w : World) (h : BookRaw w P ia its ra rls) :
  Calls Try.prog 8 #[.agg #[.int .i64 P, .slice ia its.length ic, .slice ra rls.length rc], .agg #[.int .i64 item, .int .i64 prop]] w (BoolR w true) := by
  have S0 := BrS.ask w P (.slice ia its.length ic) (.slice ra rls.length rc) (.int .i64 item) (.int .i64 prop)
  have hRaw : BookRaw ((w.alloc (.cells #[.int .i64 P, .slice ia its.length ic, .slice ra rls.length rc] 25)).alloc (.cells #[.int .i64 item, .int .i64 prop] 41)) P ia its ra rls := ⟨h.lo, h.hi, h.li, h.lr, h.items.below S0.below, h.rules.below S0.below⟩
  have HLg := hid (longBk_any P ia its ic ra rls rc _ hRaw)
  have HS0 := hid S0
  obtain ⟨i0, hinf, hz0, hz1, hz2⟩ := info_parts int_info
  clear S0 hRaw
  by_cases hb : longBk its rls = true
  · rw [hb] at HLg
    clear hb
    go_enter Try.func8, Try.ntmps8
    go_wp2_with fail
    refine HLg.out.mono ?_
    rintro e w1 ⟨q1, rfl⟩
    have hS1 := HS0.out.keep q1
    go_wp2_with fail
    refine (knownD_any _).mono ?_
    rintro e w2 ⟨q2, rfl⟩
    go_wp2
    go_ret
    exact ⟨(hS1.keep q2).below, rfl⟩
  · rw [Bool.not_eq_true] at hb
    have hBk := h.book hb
    rw [hb] at HLg
    have HSh := hid (fun (w' : World) (hb : Below w.heap.size w w') => shortest_any P ia its ic ra rls rc item prop w' (hBk.below hb))
    have HRs := hid (fun (w' : World) (hb : Below w.heap.size w w') => rshortest_any P ia its ic ra rls rc item prop w' (hBk.below hb))
    have HE := hid (fun (w' : World) (hb : Below w.heap.size w w') => explain_any P ia its ic ra rls rc item prop w' (hBk.below hb))
    clear hb hBk h
    go_enter Try.func8, Try.ntmps8
    go_wp2_with fail
    refine HLg.out.mono ?_
    rintro e w1 ⟨q1, rfl⟩
    have HS1 := hid (HS0.out.keep q1)
    obtain ⟨a0, a1, a2, a3, a4, _⟩ := id HS1.out
    clear q1 HLg HS0
    go_wp2_with fail
    refine (HSh.out _ HS1.out.below).mono ?_
    rintro e w2 ⟨q2, m, ok, er, rfl, hsh⟩
    have HS2 := hid (HS1.out.keep q2)
    obtain ⟨a0, a1, a2, a3, a4, _⟩ := id HS2.out
    have HSa := hid hsh
    clear q2 HSh HS1 hsh
    go_wp2_with fail
    refine (HRs.out _ HS2.out.below).mono ?_
    rintro e w3 ⟨q3, m2, ok2, er2, rfl, hsh2⟩
    have HS3 := hid (HS2.out.keep q3)
    obtain ⟨a0, a1, a2, a3, a4, _⟩ := id HS3.out
    obtain ⟨rfl, rfl, rfl⟩ := short_eq HSa.out hsh2
    clear q3 HRs HS2 hsh2
    have e1 : ((m2 : Int) != (m2 : Int)) = false := by simp
    have e2 : (ok2 != ok2) = false := by simp
    have e3 : (er2 != er2) = false := by simp
    go_wp2_with fail
    refine (HE.out _ HS3.out.below).mono ?_
    rintro e w4 ⟨q4, l, b, er4, A, c, rfl, hst, hl20, hlc, hex⟩
    have HS4 := hid (HS3.out.keep q4)
    have HSt := hid (fun w' (hb : Below w4.heap.size w4 w') => hst.below hb)
    obtain ⟨f1, f2, f3, f4, f5, _⟩ := short_expl HSa.out hex
    have HCn := hid (seen_cnt l f5 l.length (Nat.le_refl _))
    have HBd := hid (fun k (hk : k ≤ l.length) => seen_bd l k hk f5)
    have HLe := hid (fun k (hk : k ≤ l.length) => (show (seenTo l k).length ≤ 10 by rw [seen_cnt l f5 k hk]; exact cntBits_le _ _))
    have HGe := hid (show ok2 = true → m2 ≤ (seenTo l l.length).length from fun hh => by
      rw [seen_cnt l f5 l.length (Nat.le_refl _), List.take_length]; exact f3 hh)
    have HSc := hid (fun k => show seenTo l (k + 1) = if memB (l[k]?.getD (0, 0, 0)).1 (seenTo l k) then seenTo l k else seenTo l k ++ [(l[k]?.getD (0, 0, 0)).1] from rfl)
    have HWb := hid HS4.out.below
    clear q4 HE HS3 hst hex f1 f2 f3 f4 f5 a0 a1 a2 a3 a4 HSa HCn
    go_wp2
    go_loopw [14, 15] (fun s i wr => ∃ k : Nat, k ≤ l.length ∧ i = .int .i64 k ∧ Hid (Own wr w4.heap.size s (seenTo l k)) ∧ Hid (Below w4.heap.size w4 wr)) (fun _ i _ => l.length - (intOf i).toNat)
    case atStart => exact ⟨0, Nat.zero_le _, rfl, ⟨rfl, .inl ⟨rfl, rfl⟩⟩, Below.refl _ _⟩
    case round =>
      obtain ⟨k, hk, rfl, HOw, HB⟩ := hrel
      by_cases hlt : k < l.length
      · rcases (HSt.out _ HB.out).at_ with e | ⟨b0, o0, rfl, hc⟩
        · rw [e] at hlt; simp at hlt
        have c0 := (hc k hlt).1
        have HSk := hid (HSc.out k)
        have hle := HLe.out k hk
        have HBk := hid (HBd.out k hk)
        clear hc
        generalize (l[k]?.getD (0, 0, 0)).1 = x at *
        generalize seenTo l k = pre at *
        obtain ⟨A1, c1, rfl⟩ := own_sl HOw.out
        obtain ⟨_, _, hv, i1⟩ := HOw.out.ints (by omega) (fun x hx => by have := HBk.out x hx; omega)
        cases hv
        have HHs := hid (has_any A1 c1 pre x wr i1)
        have hk0 : (0 : Int) ≤ (k : Int) := by omega
        have hk1 : (k : Int) < (l.length : Int) := by omega
        clear i1
        cases hm : memB x pre with
        | true =>
          have HS2 := hid ((HSk.out).trans (if_pos hm))
          rw [hm] at HHs
          clear hm HSk
          go_wp2_with fail
          refine HHs.out.mono ?_
          rintro e w5 ⟨rfl, rfl⟩
          go_wp2
          go_roundw
          case rel => exact ⟨k + 1, by omega, by go_num, by rw [HS2.out]; exact HOw.out, HB⟩
          case measure => simp [intOf]; omega
        | false =>
          have HS2 := hid ((HSk.out).trans (if_neg (by rw [hm]; simp)))
          rw [hm] at HHs
          clear hm HSk
          have hown := HOw.out
          unfold Own at hown
          go_wp2_with fail
          refine HHs.out.mono ?_
          rintro e w5 ⟨rfl, rfl⟩
          go_wp2_with (at_builtin; refine wpList_append_own _ rfl _ _ 32 rfl w4.heap.size 3 i0 (.int .i64 0) 1 8 Try.underlying32 hinf hz0 hz1 hz2 rfl (by decide) _ _ _ rfl (hown.alloc _) ⟨wr.heap.size, 0, none⟩ 1 1 [.int .i64 x] rfl rfl ?c1 ?c2 ?c3 ?c4 ?c5 ?_)
          case c1 => exact cell_one_new _ _ _
          case c2 => simp [Value.oneCell']
          case c3 => unfold maxLen; omega
          case c4 => omega
          case c5 => have := HB.out.size; simp; omega
          intro v' w6 hown2 hgrow _
          have p4 := (HB.out.alloc HB.out.size _).grown hgrow (by have := HB.out.size; simp; omega) (fun q hq => by have := (hown.lt q hq).1; omega)
          have HN := hid (show Own w6 w4.heap.size v' (pre ++ [x]) by unfold Own; simpa using hown2)
          have P4 := hid p4
          clear hgrow hown hown2 p4
          go_wp2
          go_roundw
          case rel => exact ⟨k + 1, by omega, by go_num, by rw [HS2.out]; exact HN.out, P4⟩
          case measure => simp [intOf]; omega
      · obtain rfl : k = l.length := by omega
        have hge := HGe.out
        have hle := HLe.out _ hk
        generalize seenTo l l.length = sn at *
        obtain ⟨A1, c1, rfl⟩ := own_sl HOw.out
        have HBf := hid (HWb.out.trans (HB.out.mono HWb.out.size))
        clear HOw
        cases ok2 with
        | false =>
          clear hge
          go_wp2_with fail
          refine (knownD_any _).mono ?_
          rintro e w6 ⟨q6, rfl⟩
          have HBz := hid (HBf.out.trans (q6.mono HBf.out.size))
          go_wp2
          go_ret
          exact ⟨HBz.out, rfl⟩
        | true =>
          have hg := hge rfl
          clear hge
          go_wp2_with fail
          refine (knownD_any _).mono ?_
          rintro e w6 ⟨q6, rfl⟩
          have HBz := hid (HBf.out.trans (q6.mono HBf.out.size))
          go_wp2
          go_ret
          exact ⟨HBz.out, rfl⟩
end Go.Proofs.Ytdgleicpcjfnoaa
