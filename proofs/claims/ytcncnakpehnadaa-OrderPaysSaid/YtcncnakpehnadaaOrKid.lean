/- Which children have a meal on a day. -/
import Derived.Test.YtcncnakpehnadaaOrN
import Derived.Test.YtcncnakpehnadaaOrKidM
set_option linter.unusedVariables false
namespace Go.Proofs.Ytcncnakpehnadaa
open Go.RowKit

/-- Numbers and an error. -/
def IntsR (w : World) (x : List Int × Int) (en : Ending) (w' : World) : Prop := Below w.heap.size w w' ∧ ∃ A c, en = .returned (.tuple #[.slice A x.1.length c, .int .i64 x.2]) ∧ Ints w' A x.1
def kidE (l : List Fct) (d m : Int) : Int := chkE l (inI d 0 999 && inI m 0 9)
def kidG (l : List Fct) (at_ d : Int) (c : Int) : Int := mealK l c d (cutL at_ l)
def childrenL (l : List Fct) (at_ d m : Int) : List Int × Int := if kidE l d m = 0 then (kidsTo (kidG l at_ d) m 100, 0) else ([], kidE l d m)
theorem intsNil (w : World) : Ints w none [] := ⟨by simp, .inl rfl, by simp⟩
theorem kidE_ok {l : List Fct} {d m : Int} (h : kidE l d m = 0) : l.length ≤ 60 ∧ (∀ f ∈ l, factB f = true) ∧ (∀ i j, i ≤ j → j < l.length → (fAt l i).a ≤ (fAt l j).a) ∧ inI d 0 999 = true ∧ inI m 0 9 = true := by
  obtain ⟨h1, h2⟩ := chkE_ok h
  obtain ⟨a, b, e⟩ := validE_ok h1
  simp at h2
  exact ⟨a, b, e, h2.1, h2.2⟩
theorem kids_bd64 (g : Int → Int) (m : Int) (k : Nat) (hk : k ≤ 1000) : ∀ x ∈ kidsTo g m k, -9223372036854775808 ≤ x ∧ x ≤ 9223372036854775807 := fun x hx => by have := kidsTo_bd g m k x hx; omega
theorem kidsTo_succ (g : Int → Int) (m : Int) (k : Nat) : kidsTo g m (k + 1) = if g (k : Int) = m then kidsTo g m k ++ [(k : Int)] else kidsTo g m k := rfl

set_option maxRecDepth 100000 in
set_option maxHeartbeats 4000000 in
theorem Children_any (a : Option Addr) (l : List Fct) (cap : Nat) (at_ d m : Int) (w : World) (hl : FactsAt w a l) (hcap : l.length ≤ cap) :
  Calls Try.prog 31 #[.slice a l.length cap, .int .i64 at_, .int .i64 d, .int .i64 m] w (IntsR w (childrenL l at_ d m)) := by
  obtain ⟨i0, hi, hz0, hz1, hz2⟩ := info_parts int_info
  have hlen := hl.len
  have HV := hid (check_any a l cap (inI d 0 999 && inI m 0 9) w hl)
  by_cases h0 : kidE l d m = 0
  · have HM := hid (show childrenL l at_ d m = (kidsTo (kidG l at_ d) m 100, 0) from if_pos h0)
    obtain ⟨h3, h4, h5, g1, g2⟩ := kidE_ok h0
    have HV : Hid (Calls Try.prog 60 #[.slice a l.length cap, .bool true] w (IntR w 0)) := by
      have := HV.out
      unfold kidE at h0
      rw [h0, g1, g2] at this
      exact this
    have hcl := cutL_le at_ l
    have HL := hid hl
    have HSo := hid h5
    clear h0 h4 h5 hl
    go_enter Try.func31, Try.ntmps31
    go_wp2_with fail
    refine (isDay_any _ _).mono ?_
    rintro e w' ⟨rfl, rfl⟩
    rw [g1]
    go_wp2_with fail
    refine (isMeal_any _ _).mono ?_
    rintro e w' ⟨rfl, rfl⟩
    rw [g2]
    go_wp2_with fail
    refine HV.out.mono ?_
    rintro e w0 ⟨q0, rfl⟩
    go_wp2
    go_loopw [11, 24] (fun o i wr => ∃ k : Nat, k ≤ 100 ∧ i = .int .i64 k ∧ Hid (Own wr w.heap.size o (kidsTo (kidG l at_ d) m k)) ∧ Below w.heap.size w wr) (fun _ i _ => 100 - (intOf i).toNat)
    case atStart => exact ⟨0, Nat.zero_le _, rfl, Own.nil _ _, q0⟩
    case round =>
      obtain ⟨k, hk, rfl, HO, hB⟩ := hrel
      by_cases hlt : k < 100
      · have HW := hid (written_any a l cap at_ wr (HL.out.below hB) HSo.out hcap)
        have HK := hid (mealR_rec l (k : Int) d (cutL at_ l))
        have HT := hid (kidsTo_succ (kidG l at_ d) m k)
        have hkl := kidsTo_len (kidG l at_ d) m k
        go_wp2_with fail
        refine HW.out.mono ?_
        rintro e w2 ⟨q2, rfl⟩
        have p2 := hB.trans (q2.mono hB.size)
        have HR := hid (recordOf_any a l (cutL at_ l) (cutL at_ l) (k : Int) w2 (HL.out.below p2) hcl (by omega))
        go_wp2_with fail
        refine HR.out.mono ?_
        rintro e w3 ⟨q3, A, cc, rfl, hA⟩
        have p3 := p2.trans (q3.mono p2.size)
        have HS := hid (meal_any A _ cc d w3 hA)
        go_wp2_with fail
        refine HS.out.mono ?_
        rintro e w4 ⟨q4, rfl⟩
        have p4 := p3.trans (q4.mono p3.size)
        have HO4 := hid (own_below (own_below (own_below HO.out q2) q3) q4)
        rw [HK.out]
        have HG := hid (show kidG l at_ d (k : Int) = mealK l (k : Int) d (cutL at_ l) from rfl)
        clear HO HK HW HR HS hA
        by_cases he : mealK l (k : Int) d (cutL at_ l) = m
        · have HX := hid ((HT.out).trans (if_pos ((HG.out).trans he)))
          have he' : (mealK l (k : Int) d (cutL at_ l) == m) = true := by simp [he]
          clear he HT HG
          generalize mealK l (k : Int) d (cutL at_ l) = y at *
          generalize kidsTo (kidG l at_ d) m k = xs at *
          have hS2 := HO4.out
          have hzB := p4.size
          clear HO4
          go_wp2_with (at_builtin; refine wpList_append_own _ rfl _ _ 48 rfl w.heap.size 3 i0 (.int .i64 0) 1 8 Try.underlying48 hi hz0 hz1 hz2 rfl (by decide) _ _ _ rfl (hS2.alloc _) ⟨w4.heap.size, 0, none⟩ 1 1 [.int .i64 (k : Int)] rfl rfl ?c1 ?c2 ?c3 ?c4 ?c5 ?_)
          case c1 =>
            have := World.news_of_block (cs := #[.int .i64 (k : Int)]) (t := 3) (fr := (0, 0)) (heap_alloc_new w4 (.cells #[.int .i64 (k : Int)] 3))
            simpa using this
          case c2 => simp [Value.oneCell']
          case c3 => unfold maxLen; omega
          case c4 => omega
          case c5 => simp; omega
          intro v' w6 hown2 hgrow _
          have hnb : ∀ q, some q = u11.ownBlock → w.heap.size ≤ q ∧ q < w4.heap.size := fun q hq => hS2.lt q hq.symm
          have p6 := (p4.alloc p4.size _).grown hgrow (by simp; omega) (fun q hq => (hnb q hq.symm).1)
          clear hgrow hS2 hnb
          go_wp2
          go_roundw
          case rel => exact ⟨k + 1, by omega, by go_num, by unfold Hid Own; rw [HX.out]; simpa using hown2, p6⟩
          case measure => simp [intOf]; omega
        · have HX := hid ((HT.out).trans (if_neg (fun h => he ((HG.out).symm.trans h))))
          have he' : (mealK l (k : Int) d (cutL at_ l) == m) = false := by simp [he]
          clear he HT HG
          generalize mealK l (k : Int) d (cutL at_ l) = y at *
          go_wp2
          go_roundw
          case rel => exact ⟨k + 1, by omega, by go_num, by unfold Hid; rw [HX.out]; exact HO4.out, p4⟩
          case measure => simp [intOf]; omega
      · obtain rfl : k = 100 := by omega
        have hkl := kidsTo_len (kidG l at_ d) m 100
        have hbd := hid (kids_bd64 (kidG l at_ d) m 100 (by omega))
        obtain ⟨A, c, rfl, hI⟩ := Own.ints HO.out (by omega) hbd.out
        go_wp2
        go_ret2
        exact ⟨hB, A, c, by rw [HM.out]; rfl, by rw [HM.out]; exact hI⟩
  · have HM := hid (show childrenL l at_ d m = ([], kidE l d m) from if_neg h0)
    have h0' : (kidE l d m != 0) = true := by simp [h0]
    have HV : Hid (Calls Try.prog 60 #[.slice a l.length cap, .bool (inI d 0 999 && inI m 0 9)] w (IntR w (kidE l d m))) := HV.out
    clear h0 hl
    generalize kidE l d m = x at *
    cases g1 : inI d 0 999 with
    | false =>
      rw [g1] at HV
      go_enter Try.func31, Try.ntmps31
      go_wp2_with fail
      refine (isDay_any _ _).mono ?_
      rintro e w' ⟨rfl, rfl⟩
      rw [g1]
      go_wp2_with fail
      refine HV.out.mono ?_
      rintro e w1 ⟨q1, rfl⟩
      go_wp2
      go_ret2
      exact ⟨q1, none, 0, by rw [HM.out]; rfl, by rw [HM.out]; exact intsNil _⟩
    | true =>
      rw [g1] at HV
      go_enter Try.func31, Try.ntmps31
      go_wp2_with fail
      refine (isDay_any _ _).mono ?_
      rintro e w' ⟨rfl, rfl⟩
      rw [g1]
      go_wp2_with fail
      refine (isMeal_any _ _).mono ?_
      rintro e w' ⟨rfl, rfl⟩
      go_wp2_with fail
      refine HV.out.mono ?_
      rintro e w1 ⟨q1, rfl⟩
      go_wp2
      go_ret2
      exact ⟨q1, none, 0, by rw [HM.out]; rfl, by rw [HM.out]; exact intsNil _⟩
end Go.Proofs.Ytcncnakpehnadaa
