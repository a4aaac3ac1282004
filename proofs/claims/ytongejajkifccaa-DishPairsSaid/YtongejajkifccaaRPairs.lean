/- The document's own whole pairs (canteenref02.Pairs). -/
import Derived.Test.YtongejajkifccaaPairs
set_option linter.unusedVariables false
namespace Go.Proofs.Ytongejajkifccaa
open Go.RowKit

set_option maxRecDepth 100000 in
set_option maxHeartbeats 4000000 in
theorem rpairs_any (a : Option Addr) (rows : List Int) (cap : Nat) (d : Int) (w : World) (h : Ints w a rows) :
  Calls Try.prog 52 #[.slice a rows.length cap, .int .i64 d] w (OwnPR w w.heap.size (pairsR rows d)) := by
  have HV := hid (rvalidTab_any a rows cap d · )
  by_cases hz : validTab rows d = 0
  · obtain ⟨h0, h8, hr8, hrr⟩ := validTab_ok hz
    have HM := hid (show pairsR rows d = (pairsTo d.toNat rows (2 ^ rows.length), 0) by rw [pairsR, if_neg (by simp [hz])])
    have HZ := hid hz
    obtain ⟨n, rfl⟩ := Int.eq_ofNat_of_zero_le h0
    rw [Int.toNat_natCast] at HM
    have hn8 : n ≤ 8 := by omega
    have hp : 2 ^ rows.length ≤ 256 := Nat.pow_le_pow_right (n := 2) (by omega) hr8
    have hpn : 2 ^ n ≤ 256 := Nat.pow_le_pow_right (n := 2) (by omega) hn8
    have HP := hid (pow_wrap rows.length (by omega))
    have hrr2 : ∀ x ∈ rows, 0 ≤ x ∧ x < 256 := fun x hx => by have := hrr x hx; rw [Int.toNat_natCast] at this; omega
    have HRr := hid hrr2
    have HCl := hid (fun j => comN_lt n rows j rows.length)
    obtain ⟨i0, hi, hz0, hz1, hz2⟩ := info_parts pair_info
    clear hz hrr hrr2
    have HH := hid h
    have HTs := hid (show ∀ j, pairsTo n rows (j + 1) = if eatN rows (comN n rows j rows.length) rows.length = j then pairsTo n rows j ++ [((j : Int), ((comN n rows j rows.length : Nat) : Int))] else pairsTo n rows j from fun j => rfl)
    go_enter Try.func52, Try.ntmps52
    go_wp2_with fail
    refine (HV.out _ h).mono ?_
    rintro e w1 ⟨q1, rfl⟩
    rw [HZ.out]
    clear HV h
    go_wp2
    have HNN := hid (show 2 ^ rows.length = 2 ^ rows.length from rfl)
    go_loopw [7, 8] (fun o i wr => ∃ j : Nat, j ≤ 2 ^ rows.length ∧ i = .int .i64 j ∧ OwnP wr w.heap.size o (pairsTo n rows j) ∧ Below w.heap.size w wr) (fun _ i _ => 2 ^ rows.length - (intOf i).toNat)
    case atStart => exact ⟨0, Nat.zero_le _, rfl, OwnP.nil _ _, q1⟩
    case round =>
      obtain ⟨j, hj, rfl, hown, hB⟩ := hrel
      by_cases hlt : j < 2 ^ rows.length
      · have hlen := pairsTo_len n rows j
        have hI := HH.out.below hB
        have hltw : (j : Int) < wrap64 (2 ^ rows.length) := by rw [HP.out]; omega
        have hcl := HCl.out j
        have hj256 : j < 256 := by omega
        have HT := hid (HTs.out j)
        have HC := hid (fun (w' : World) (hI : Ints w' a rows) => rcommon_any a rows cap n j w' hI HRr.out hn8 hr8 (by omega))
        have HCE := hid (com_eq n rows j rows.length)
        have HX := hid (fun (w' : World) (hI : Ints w' a rows) => reaters_any a rows cap n (comN n rows j rows.length) w' hI HRr.out hn8 hr8 (by omega))
        have HXE := hid (eat_eq n rows (comN n rows j rows.length) rows.length hcl)
        generalize comN n rows j rows.length = cm at *
        generalize pairsTo n rows j = pre at *
        by_cases hf : eatN rows cm rows.length = j
        · have HT2 := hid (show pairsTo n rows (j + 1) = pre ++ [((j : Int), (cm : Int))] by rw [HT.out, if_pos hf])
          go_wp2_with fail
          refine (HC.out _ hI).mono ?_
          rintro e w2 ⟨q2, rfl⟩
          rw [HCE.out]
          have p2 := hB.trans (q2.mono hB.size)
          go_wp2_with fail
          refine (HX.out _ (hI.below q2)).mono ?_
          rintro e w3 ⟨q3, rfl⟩
          rw [← HXE.out, hf]
          have p3 := p2.trans (q3.mono p2.size)
          have hown : w3.ownsRow w.heap.size 79 2 _ _ _ := own_below (own_below hown q2) q3
          have ht : ((j : Int) == (j : Int)) = true := by simp
          clear hI hf HT HC HX q2 q3 p2 hB
          go_wp2_with (at_builtin; refine wpList_append_own _ rfl _ _ 76 rfl w.heap.size 79 i0 (.agg #[.int .i64 0, .int .i64 0]) 2 16 Try.underlying76 hi hz0 hz1 hz2 rfl (by decide) _ _ _ rfl (hown.alloc _) ⟨w3.heap.size, 0, none⟩ 1 1 [.int .i64 (j : Int), .int .i64 (cm : Int)] rfl rfl ?c1 ?c2 ?c3 ?c4 ?c5 ?_)
          case c1 => exact World.news_of_block (cs := #[.int .i64 (j : Int), .int .i64 (cm : Int)]) (t := 79) (fr := (0, 0)) (heap_alloc_new w3 _)
          case c2 => simp [Value.oneCell']
          case c3 => unfold maxLen; omega
          case c4 => omega
          case c5 => have := p3.size; simp; omega
          intro v' w4 hown3 hgrow _
          have p4 := (p3.alloc p3.size _).grown hgrow (by have := p3.size; simp; omega) (fun q hq => by have := (hown.lt q hq).1; omega)
          clear hgrow hown
          go_wp2
          go_roundw
          case rel => exact ⟨j + 1, by omega, by go_num, by rw [HT2.out]; unfold OwnP; rw [pairCells_snoc]; simpa using hown3, p4⟩
          case measure => simp [intOf]; omega
        · have HT2 := hid (show pairsTo n rows (j + 1) = pre by rw [HT.out, if_neg hf])
          have hfe : (((eatN rows cm rows.length : Nat) : Int) == (j : Int)) = false := by simp; omega
          generalize eatN rows cm rows.length = ec at *
          go_wp2_with fail
          refine (HC.out _ hI).mono ?_
          rintro e w2 ⟨q2, rfl⟩
          rw [HCE.out]
          have p2 := hB.trans (q2.mono hB.size)
          go_wp2_with fail
          refine (HX.out _ (hI.below q2)).mono ?_
          rintro e w3 ⟨q3, rfl⟩
          rw [← HXE.out]
          have p3 := p2.trans (q3.mono p2.size)
          have hown : OwnP w3 w.heap.size _ _ := own_below (own_below hown q2) q3
          clear q2 q3 p2 hB hI
          go_wp2
          go_roundw
          case rel => exact ⟨j + 1, by omega, by go_num, by rw [HT2.out]; exact hown, p3⟩
          case measure => simp [intOf]; omega
      · obtain rfl : j = 2 ^ rows.length := by omega
        have hnw : ¬ ((2 ^ rows.length : Nat) : Int) < wrap64 (2 ^ rows.length) := by rw [HP.out]; omega
        obtain ⟨A, c, rfl⟩ := hown.sl
        go_wp2
        refine bodyPost_ret (v := .tuple #[.slice A (pairsTo n rows (2 ^ rows.length)).length c, .int .i64 0]) (by simp [results, Try.results52, go_sem]) rfl ⟨hB, A, c, by rw [HM.out], by rw [HM.out]; exact hown⟩
  · have hz' : (validTab rows d != 0) = true := by simp [hz]
    have HM := hid (show pairsR rows d = ([], validTab rows d) by rw [pairsR, if_pos hz])
    clear hz
    generalize validTab rows d = x at *
    go_enter Try.func52, Try.ntmps52
    go_wp2_with fail
    refine (HV.out _ h).mono ?_
    rintro e w1 ⟨q1, rfl⟩
    go_wp2
    refine bodyPost_ret (v := .tuple #[.slice none 0 0, .int .i64 x]) (by simp [results, Try.results52, go_sem]) rfl ⟨q1, none, 0, by rw [HM.out]; rfl, by rw [HM.out]; exact OwnP.nil _ _⟩

end Go.Proofs.Ytongejajkifccaa
