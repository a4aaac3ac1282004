/- Rights of the document, and sameness of rights. (Written by wip/tools/gen_orrights2.py.) -/
import Derived.Test.YtkepjoociidkcaaOrRg
set_option linter.unusedVariables false
namespace Go.Proofs.Ytkepjoociidkcaa
open Go.RowKit

set_option maxRecDepth 100000 in
set_option maxHeartbeats 4000000 in
theorem rRights_any (a : Option Addr) (r : List Rgt) (cap : Nat) (ch : Int) (w : World) (hr : RgtsAt w a r) : Calls Try.prog 42 #[.slice a r.length cap, .int .i64 ch] w (RgtsR w (rightsV r ch)) := by
  obtain ⟨i0, hinf, hz0, hz1, hz2⟩ := info_parts rg_info
  have h1 := hr.len
  have HA := hid (show rightsV r ch = if rightsE r = 0 then (if inI ch 0 99 = true then (toR ch (spTo (gFree r ch) 1000), 0) else ([], 1)) else ([], rightsE r) from rfl)
  have HRt := hid hr
  have HV := hid (rvalidateRights_any a r cap w hr)
  clear hr
  by_cases h0 : rightsE r = 0
  · have HA := hid ((HA.out).trans (if_pos h0))
    rw [h0] at HV
    clear h0
    cases g1 : inI ch 0 99 with
    | false =>
      have HX := hid (show rightsV r ch = ([], 1) by rw [HA.out, g1]; rfl)
      go_enter Try.func42, Try.ntmps42
      go_wp2_with fail
      refine HV.out.mono ?_
      rintro e w1 ⟨q1, rfl⟩
      go_wp2_with fail
      refine (rwithin_any _ _ _ _).mono ?_
      rintro e w' ⟨rfl, rfl⟩
      rw [g1]
      go_wp2
      go_ret2
      exact ⟨q1, none, 0, by rw [HX.out]; rfl, by rw [HX.out]; exact rgtsNil _⟩
    | true =>
      have HX := hid (show rightsV r ch = (rgTo r ch 1000, 0) by rw [HA.out, g1, rgTo_eq]; rfl)
      clear HA
      go_enter Try.func42, Try.ntmps42
      go_wp2_with fail
      refine HV.out.mono ?_
      rintro e w1 ⟨q1, rfl⟩
      go_wp2_with fail
      refine (rwithin_any _ _ _ _).mono ?_
      rintro e w' ⟨rfl, rfl⟩
      rw [g1]
      go_wp2
      go_loopw [7, 8] (fun o i wr => ∃ (k n : Nat), k ≤ 1000 ∧ i = .int .i64 k ∧ n ≤ k ∧ Hid (OwnRg wr w.heap.size o n (rgTo r ch k)) ∧ Below w.heap.size w wr) (fun _ i _ => 1000 - (intOf i).toNat)
      case atStart => exact ⟨0, 0, Nat.zero_le _, rfl, Nat.le_refl _, ⟨rfl, rfl, .inl ⟨rfl, rfl⟩⟩, q1⟩
      case round =>
        obtain ⟨k, n, hk, rfl, hnk, HO, hB⟩ := hrel
        have HO2 := HO.out
        obtain ⟨A, c, rfl⟩ := HO2.sl
        clear HO2
        by_cases hlt : k < 1000
        · have hc := hid (rfree_any a r cap ch (k : Int) wr (HRt.out.below hB))
          have HT0 := hid (show rgTo r ch (k + 1) = if freeL ch (k : Int) r = true then addR ch (rgTo r ch k) (k : Int) else rgTo r ch k from rfl)
          cases hb : freeL ch (k : Int) r with
          | false =>
            have HT := hid ((HT0.out).trans (if_neg (by rw [hb]; simp)))
            rw [hb] at hc
            clear hb HT0
            go_wp2_with fail
            refine hc.out.mono ?_
            rintro e w' ⟨rfl, rfl⟩
            go_wp2
            go_roundw
            case rel => exact ⟨k + 1, n, by omega, by go_num, by omega, by unfold Hid; rw [HT.out]; exact HO.out, hB⟩
            case measure => simp [intOf]; omega
          | true =>
            have HT := hid ((HT0.out).trans (if_pos hb))
            rw [hb] at hc
            clear hb HT0
            generalize rgTo r ch k = s at *
            go_wp2_with fail
            refine hc.out.mono ?_
            rintro e w1x ⟨hw1, rfl⟩
            obtain rfl := hw1
            have HO1 := HO
            clear HO hc
            by_cases h0 : n = 0
            · subst h0
              have HA := hid (show addR ch s (k : Int) = s ++ [⟨ch, k, k + 1⟩] by unfold addR; rw [if_neg (by have := HO1.out.1; omega)])
              have hS2 := HO1.out.2
              have HON := hid HO1.out.1
              have hzB := hB.size
              clear HO1
              go_wp2_with (at_builtin; refine wpList_append_own _ rfl _ _ 56 rfl w.heap.size 92 i0 (.agg #[.int .i64 0, .int .i64 0, .int .i64 0]) 3 24 Try.underlying56 hinf hz0 hz1 hz2 rfl (by decide) _ _ _ rfl (hS2.alloc _) ⟨wr.heap.size, 0, none⟩ 1 1 [.int .i64 ch, .int .i64 (k : Int), .int .i64 ((k : Int) + 1)] rfl rfl ?d1 ?d2 ?d3 ?d4 ?d5 ?_)
              case d1 =>
                have := World.news_of_block (cs := #[.int .i64 ch, .int .i64 (k : Int), .int .i64 ((k : Int) + 1)]) (t := 92) (fr := (0, 0)) (heap_alloc_new wr (.cells #[.int .i64 ch, .int .i64 (k : Int), .int .i64 ((k : Int) + 1)] 92))
                simpa using this
              case d2 => simp [Value.oneCell']
              case d3 => unfold maxLen; omega
              case d4 => omega
              case d5 => simp; omega
              intro v' w6 hown2 hgrow _
              have hnb : ∀ q, some q = (Value.slice A 0 c).ownBlock → w.heap.size ≤ q ∧ q < wr.heap.size := fun q hq => hS2.lt q hq.symm
              have p6 := (hB.alloc hB.size _).grown hgrow (by simp; omega) (fun q hq => (hnb q hq.symm).1)
              clear hgrow hS2 hnb
              go_wp2
              go_roundw
              case rel => exact ⟨k + 1, 0 + 1, by omega, by go_num, by omega, ⟨by rw [HT.out, HA.out]; simp [HON.out], by rw [HT.out, HA.out, rgCells_snoc]; simpa using hown2⟩, p6⟩
              case measure => simp [intOf]; omega
            · obtain ⟨j, rfl⟩ : ∃ j, n = j + 1 := ⟨n - 1, by omega⟩
              clear h0
              obtain ⟨g, rfl, hg1, hg2⟩ := HO1.out.place (by omega)
              obtain ⟨c0, c1, c2⟩ := HO1.out.cells j (by omega)
              have f1 := HO1.out.2.frozenAt (j * 3 + 2)
              have HE := hid (show gAt s (s.length - 1) = gAt s j by rw [HO1.out.1]; rfl)
              have HL := hid HO1.out.1
              have HSet := hid (fun y => rgCells_set s j (by have := HO1.out.1; omega) y)
              have jN : decide ((0 : Int) < (j : Int) + 1) = true := by simp <;> omega
              have jN2 : decide (0 < j + 1) = true := by simp
              have jI : (0 : Int) ≤ (j : Int) := by omega
              have jL : (j : Int) < ((j + 1 : Nat) : Int) := by omega
              generalize gAt s j = x at *
              by_cases ht : x.t = (k : Int)
              · have HA := hid (show addR ch s (k : Int) = s.set j ⟨x.c, x.f, x.t + 1⟩ by
                  unfold addR; rw [HE.out, if_pos ⟨by rw [HL.out]; omega, ht⟩, HL.out]; first | done | rfl)
                have t1 : (x.t == (k : Int)) = true := by simp [ht]
                have t3 : x.t ≤ 1000 := by omega
                have t4 : 0 ≤ x.t := by omega
                have HSt := hid (HO1.out.2.stored (j * 3 + 2) (.int .i64 (x.t + 1)))
                have HBn := hid (hB.setCell (p := ⟨g, j * 3 + 2, none⟩) (by exact hg1) (.int .i64 (x.t + 1)))
                clear ht c0 c1
                go_wp2
                go_roundw
                case rel => exact ⟨k + 1, j + 1, by omega, by go_num, by omega, ⟨by rw [HT.out, HA.out]; simp [HL.out], by rw [HT.out, HA.out]; have := HSt.out.1; rw [HSet.out] at this; exact this⟩, HBn.out⟩
                case measure => simp [intOf]; omega
              · have HA := hid (show addR ch s (k : Int) = s ++ [⟨ch, k, k + 1⟩] by unfold addR; rw [HE.out, if_neg (fun h => ht h.2)])
                have t1 : (x.t == (k : Int)) = false := by simp [ht]
                clear ht
                have hS2 := HO1.out.2
                have HON := hid HO1.out.1
                have hzB := hB.size
                clear HO1
                go_wp2_with (at_builtin; refine wpList_append_own _ rfl _ _ 56 rfl w.heap.size 92 i0 (.agg #[.int .i64 0, .int .i64 0, .int .i64 0]) 3 24 Try.underlying56 hinf hz0 hz1 hz2 rfl (by decide) _ _ _ rfl (hS2.alloc _) ⟨wr.heap.size, 0, none⟩ 1 1 [.int .i64 ch, .int .i64 (k : Int), .int .i64 ((k : Int) + 1)] rfl rfl ?d1 ?d2 ?d3 ?d4 ?d5 ?_)
                case d1 =>
                  have := World.news_of_block (cs := #[.int .i64 ch, .int .i64 (k : Int), .int .i64 ((k : Int) + 1)]) (t := 92) (fr := (0, 0)) (heap_alloc_new wr (.cells #[.int .i64 ch, .int .i64 (k : Int), .int .i64 ((k : Int) + 1)] 92))
                  simpa using this
                case d2 => simp [Value.oneCell']
                case d3 => unfold maxLen; omega
                case d4 => omega
                case d5 => simp; omega
                intro v' w6 hown2 hgrow _
                have hnb : ∀ q, some q = (Value.slice (some ⟨g, 0, none⟩) (j + 1) c).ownBlock → w.heap.size ≤ q ∧ q < wr.heap.size := fun q hq => hS2.lt q hq.symm
                have p6 := (hB.alloc hB.size _).grown hgrow (by simp; omega) (fun q hq => (hnb q hq.symm).1)
                clear hgrow hS2 hnb
                go_wp2
                go_roundw
                case rel => exact ⟨k + 1, (j + 1) + 1, by omega, by go_num, by omega, ⟨by rw [HT.out, HA.out]; simp [HON.out], by rw [HT.out, HA.out, rgCells_snoc]; simpa using hown2⟩, p6⟩
                case measure => simp [intOf]; omega
        · obtain rfl : k = 1000 := by omega
          have HL := hid HO.out.1
          have hat := hid (HO.out.at_ (by omega))
          clear HO
          go_wp2
          go_ret2
          exact ⟨hB, A, c, by rw [HX.out]; dsimp only; rw [HL.out]; rfl, by rw [HX.out]; exact hat.out⟩
  · have HX := hid ((HA.out).trans (if_neg h0))
    have h0' : (rightsE r != 0) = true := by simp [h0]
    clear h0 HA
    generalize rightsE r = x at *
    go_enter Try.func42, Try.ntmps42
    go_wp2_with fail
    refine HV.out.mono ?_
    rintro e w1 ⟨q1, rfl⟩
    go_wp2
    go_ret2
    exact ⟨q1, none, 0, by rw [HX.out]; rfl, by rw [HX.out]; exact rgtsNil _⟩

theorem RgtsAt.drew {w : World} {a : Option Addr} {s : List Rgt} (h : RgtsAt w a s) (n : Nat) : RgtsAt (w.drewN n) a s := h.below (below_drewN (Below.refl _ _) n)
set_option maxRecDepth 100000 in
set_option maxHeartbeats 2000000 in
theorem sameRights_any (a b : Option Addr) (s : List Rgt) (ca cb : Nat) (w : World) (ha : RgtsAt w a s) (hb : RgtsAt w b s) :
  Calls Try.prog 45 #[.slice a s.length ca, .slice b s.length cb] w (DrawTrue w) := by
  have hlen := ha.len
  have HA := hid ha
  have HB := hid hb
  clear ha hb
  go_enter Try.func45, Try.ntmps45
  go_wp2
  go_loopw [5] (fun i wr => ∃ k : Nat, k ≤ s.length ∧ i = .int .i64 k ∧ Hid (∃ n, wr = w.drewN n)) (fun i _ => s.length - (intOf i).toNat)
  case atStart => exact ⟨0, Nat.zero_le _, rfl, ⟨0, rfl⟩⟩
  case round =>
    obtain ⟨k, hk, rfl, HW⟩ := hrel
    by_cases hlt : k < s.length
    · have HA2 := hid (show RgtsAt wr a s by obtain ⟨n, e⟩ := HW.out; rw [e]; exact HA.out.drew n)
      have HB2 := hid (show RgtsAt wr b s by obtain ⟨n, e⟩ := HW.out; rw [e]; exact HB.out.drew n)
      rcases HA2.out.at_ with e | ⟨p, o, rfl, hc⟩
      · rw [e] at hlt; simp at hlt
      rcases HB2.out.at_ with e | ⟨q, o2, rfl, hd⟩
      · rw [e] at hlt; simp at hlt
      obtain ⟨c0, c1, c2⟩ := hc k hlt
      obtain ⟨d0, d1, d2⟩ := hd k hlt
      have i0 : (0 : Int) ≤ (k : Int) := by omega
      have i1 : (k : Int) < (s.length : Int) := by omega
      clear hc hd
      generalize gAt s k = x at *
      go_wp2
      go_quiet (fail)
      go_wp2
      go_roundw
      case rel => exact ⟨k + 1, by omega, by go_num, by obtain ⟨m, e⟩ := HW.out; exact ⟨m + nq, by rw [e, World.drewN_drewN]⟩⟩
      case measure => simp [intOf]; omega
    · go_wp2
      go_ret
      obtain ⟨n, e⟩ := HW.out
      exact ⟨n, e, rfl⟩
end Go.Proofs.Ytkepjoociidkcaa
