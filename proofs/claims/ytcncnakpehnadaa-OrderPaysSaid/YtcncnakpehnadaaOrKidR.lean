/- Which children have a meal: the document's own answer, and sameness of numbers. -/
import Derived.Test.YtcncnakpehnadaaOrKid
import Derived.Test.YtcncnakpehnadaaOrL
set_option linter.unusedVariables false
namespace Go.Proofs.Ytcncnakpehnadaa
open Go.RowKit

set_option maxRecDepth 100000 in
set_option maxHeartbeats 4000000 in
theorem rchildren_any (a : Option Addr) (l : List Fct) (cap : Nat) (at_ d m : Int) (w : World) (hl : FactsAt w a l) (hs : ∀ i j, i ≤ j → j < l.length → (fAt l i).a ≤ (fAt l j).a) :
  Calls Try.prog 73 #[.slice a l.length cap, .int .i64 at_, .int .i64 d, .int .i64 m] w (fun en w' => Below w.heap.size w w' ∧ ∃ A c, en = .returned (.slice A (kidsTo (kidG l at_ d) m 100).length c) ∧ Ints w' A (kidsTo (kidG l at_ d) m 100)) := by
  obtain ⟨i0, hi, hz0, hz1, hz2⟩ := info_parts int_info
  have hlen := hl.len
  have HL := hid hl
  have HC := hid (fun c => refMeal_cut hs at_ c d)
  clear hl hs
  go_enter Try.func73, Try.ntmps73
  go_wp2
  go_loopw [9, 10] (fun o i wr => ∃ k : Nat, k ≤ 100 ∧ i = .int .i64 k ∧ Hid (Own wr w.heap.size o (kidsTo (kidG l at_ d) m k)) ∧ Below w.heap.size w wr) (fun _ i _ => 100 - (intOf i).toNat)
  case atStart => exact ⟨0, Nat.zero_le _, rfl, Own.nil _ _, Below.refl _ _⟩
  case round =>
    obtain ⟨k, hk, rfl, HO, hB⟩ := hrel
    by_cases hlt : k < 100
    · have HK := hid (rknown_any a l cap at_ (k : Int) d wr (HL.out.below hB))
      have HT := hid (kidsTo_succ (kidG l at_ d) m k)
      have hkl := kidsTo_len (kidG l at_ d) m k
      rw [HC.out] at HK
      have HG := hid (show kidG l at_ d (k : Int) = mealK l (k : Int) d (cutL at_ l) from rfl)
      go_wp2_with fail
      refine HK.out.mono ?_
      rintro e w4 ⟨hw4, rfl⟩
      obtain rfl := hw4
      clear HK
      by_cases he : mealK l (k : Int) d (cutL at_ l) = m
      · have HX := hid ((HT.out).trans (if_pos ((HG.out).trans he)))
        have he' : (mealK l (k : Int) d (cutL at_ l) == m) = true := by simp [he]
        clear he HT HG
        generalize mealK l (k : Int) d (cutL at_ l) = y at *
        generalize kidsTo (kidG l at_ d) m k = xs at *
        have hS2 := HO.out
        have hzB := hB.size
        clear HO
        go_wp2_with (at_builtin; refine wpList_append_own _ rfl _ _ 48 rfl w.heap.size 3 i0 (.int .i64 0) 1 8 Try.underlying48 hi hz0 hz1 hz2 rfl (by decide) _ _ _ rfl (hS2.alloc _) ⟨wr.heap.size, 0, none⟩ 1 1 [.int .i64 (k : Int)] rfl rfl ?c1 ?c2 ?c3 ?c4 ?c5 ?_)
        case c1 =>
          have := World.news_of_block (cs := #[.int .i64 (k : Int)]) (t := 3) (fr := (0, 0)) (heap_alloc_new wr (.cells #[.int .i64 (k : Int)] 3))
          simpa using this
        case c2 => simp [Value.oneCell']
        case c3 => unfold maxLen; omega
        case c4 => omega
        case c5 => simp; omega
        intro v' w6 hown2 hgrow _
        have hnb : ∀ q, some q = u9.ownBlock → w.heap.size ≤ q ∧ q < wr.heap.size := fun q hq => hS2.lt q hq.symm
        have p6 := (hB.alloc hB.size _).grown hgrow (by simp; omega) (fun q hq => (hnb q hq.symm).1)
        clear hgrow hS2 hnb
        go_wp2
        go_roundw
        case rel => exact ⟨k + 1, by omega, by go_num, by unfold Hid Own; rw [HX.out]; simpa using hown2, p6⟩
        case measure => simp [intOf]; omega
      · have HX := hid ((HT.out).trans (if_neg (fun h => he ((HG.out).symm.trans h))))
        have he' : (mealK l (k : Int) d (cutL at_ l) == m) = false := by simp [he]
        clear he HT HG
        generalize mealK l (k : Int) d (cutL at_ l) = y at *
        go_wp2
        go_roundw
        case rel => exact ⟨k + 1, by omega, by go_num, by unfold Hid; rw [HX.out]; exact HO.out, hB⟩
        case measure => simp [intOf]; omega
    · obtain rfl : k = 100 := by omega
      have hkl := kidsTo_len (kidG l at_ d) m 100
      have hbd := hid (kids_bd64 (kidG l at_ d) m 100 (by omega))
      obtain ⟨A, c, rfl, hI⟩ := Own.ints HO.out (by omega) hbd.out
      go_wp2
      go_ret
      exact ⟨hB, A, c, rfl, hI⟩

theorem kidE_eq (l : List Fct) (d m : Int) : kidE l d m = if askE l 0 d = 0 then (if inI m 0 9 = true then 0 else 1) else askE l 0 d := by
  unfold kidE askE chkE
  rw [show inI 0 0 99 = true from rfl, Bool.true_and]
  by_cases h : validE l = 0
  · rw [if_pos h, if_pos h]
    cases inI d 0 999 <;> cases inI m 0 9 <;> simp
  · rw [if_neg h, if_neg h, if_neg h]
set_option maxHeartbeats 2000000 in
theorem rChildren_any (a : Option Addr) (l : List Fct) (cap : Nat) (at_ d m : Int) (w : World) (hl : FactsAt w a l) :
  Calls Try.prog 32 #[.slice a l.length cap, .int .i64 at_, .int .i64 d, .int .i64 m] w (IntsR w (childrenL l at_ d m)) := by
  have hlen := hl.len
  have HV := hid (show Calls Try.prog 66 #[.slice a l.length cap, .int .i64 0, .int .i64 d] w (IntR w (askE l 0 d)) from asked_any a l cap 0 d w hl)
  have HE := hid (kidE_eq l d m)
  by_cases h0 : askE l 0 d = 0
  · have HE2 := hid ((HE.out).trans (if_pos h0))
    have HSo := hid (askE_ok h0).2.2.1
    rw [h0] at HV
    have HL := hid hl
    clear h0 hl HE
    cases g : inI m 0 9 with
    | true =>
      rw [g] at HE2
      have HM := hid (show childrenL l at_ d m = (kidsTo (kidG l at_ d) m 100, 0) from if_pos ((HE2.out).trans (if_pos rfl)))
      go_enter Try.func32, Try.ntmps32
      go_wp2_with fail
      refine HV.out.mono ?_
      rintro e w1 ⟨q1, rfl⟩
      go_wp2_with fail
      refine (rwithin_any _ _ _ _).mono ?_
      rintro e w' ⟨rfl, rfl⟩
      rw [g]
      have HK := hid (rchildren_any a l cap at_ d m w1 (HL.out.below q1) HSo.out)
      go_wp2_with fail
      refine HK.out.mono ?_
      rintro e w2 ⟨q2, A, c, rfl, hA⟩
      go_wp2
      go_ret2
      exact ⟨q1.trans (q2.mono q1.size), A, c, by rw [HM.out]; rfl, by rw [HM.out]; exact hA⟩
    | false =>
      rw [g] at HE2
      have HM := hid (show childrenL l at_ d m = ([], 1) by unfold childrenL; rw [HE2.out]; rfl)
      go_enter Try.func32, Try.ntmps32
      go_wp2_with fail
      refine HV.out.mono ?_
      rintro e w1 ⟨q1, rfl⟩
      go_wp2_with fail
      refine (rwithin_any _ _ _ _).mono ?_
      rintro e w' ⟨rfl, rfl⟩
      rw [g]
      go_wp2
      go_ret2
      exact ⟨q1, none, 0, by rw [HM.out]; rfl, by rw [HM.out]; exact intsNil _⟩
  · have HE2 := hid ((HE.out).trans (if_neg h0))
    have HM := hid (show childrenL l at_ d m = ([], askE l 0 d) by unfold childrenL; rw [HE2.out, if_neg h0])
    have h0' : (askE l 0 d != 0) = true := by simp [h0]
    clear h0 hl HE HE2
    generalize askE l 0 d = x at *
    go_enter Try.func32, Try.ntmps32
    go_wp2_with fail
    refine HV.out.mono ?_
    rintro e w1 ⟨q1, rfl⟩
    go_wp2
    go_ret2
    exact ⟨q1, none, 0, by rw [HM.out]; rfl, by rw [HM.out]; exact intsNil _⟩

theorem Ints.drew {w : World} {a : Option Addr} {s : List Int} (h : Ints w a s) (n : Nat) : Ints (w.drewN n) a s := h.below (below_drewN (Below.refl _ _) n)
set_option maxRecDepth 100000 in
set_option maxHeartbeats 2000000 in
theorem sameInts5_any (a b : Option Addr) (s : List Int) (ca cb : Nat) (w : World) (ha : Ints w a s) (hb : Ints w b s) :
  Calls Try.prog 33 #[.slice a s.length ca, .slice b s.length cb] w (fun en w' => ∃ n, w' = w.drewN n ∧ en = .returned (.bool true)) := by
  have hlen := ha.len
  have HA := hid ha
  have HB := hid hb
  clear ha hb
  go_enter Try.func33, Try.ntmps33
  go_wp2
  go_loopw [5] (fun i wr => ∃ k : Nat, k ≤ s.length ∧ i = .int .i64 k ∧ Hid (∃ n, wr = w.drewN n)) (fun i _ => s.length - (intOf i).toNat)
  case atStart => exact ⟨0, Nat.zero_le _, rfl, ⟨0, rfl⟩⟩
  case round =>
    obtain ⟨k, hk, rfl, HW⟩ := hrel
    by_cases hlt : k < s.length
    · have HA2 := hid (show Ints wr a s by obtain ⟨n, e⟩ := HW.out; rw [e]; exact HA.out.drew n)
      have HB2 := hid (show Ints wr b s by obtain ⟨n, e⟩ := HW.out; rw [e]; exact HB.out.drew n)
      rcases HA2.out.at_ with e | ⟨p, o, rfl, hc⟩
      · rw [e] at hlt; simp at hlt
      rcases HB2.out.at_ with e | ⟨q, o2, rfl, hd⟩
      · rw [e] at hlt; simp at hlt
      have c0 := hc k hlt
      have d0 := hd k hlt
      have i0 : (0 : Int) ≤ (k : Int) := by omega
      have i1 : (k : Int) < (s.length : Int) := by omega
      clear hc hd
      generalize s[k]?.getD 0 = x at *
      go_wp2
      go_quiet (fail)
      go_wp2
      go_roundw
      case rel => exact ⟨k + 1, by omega, by go_num, by obtain ⟨m, e⟩ := HW.out; exact ⟨m + nq, by rw [e, World.drewN_drewN]⟩⟩
      case measure => simp [intOf]; omega
    · go_wp2
      go_ret
      obtain ⟨n, e⟩ := HW.out
      exact ⟨n, e, rfl⟩
end Go.Proofs.Ytcncnakpehnadaa
