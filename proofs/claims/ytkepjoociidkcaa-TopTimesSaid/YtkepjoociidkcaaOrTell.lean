/- History and Until of package order, and the document's own. (Written by wip/tools/gen_ortell.py.) -/
import Derived.Test.YtkepjoociidkcaaOrFO
set_option linter.unusedVariables false
namespace Go.Proofs.Ytkepjoociidkcaa
open Go.RowKit

set_option maxRecDepth 100000 in
set_option maxHeartbeats 4000000 in
theorem History_any (a : Option Addr) (l : List Fct) (cap : Nat) (c d : Int) (w : World) (hl : FactsAt w a l) :
  Calls Try.prog 30 #[.slice a l.length cap, .int .i64 c, .int .i64 d] w (FactsR w (histL l c d)) := by
  obtain ⟨i0, hinf, hz0, hz1, hz2⟩ := info_parts fc_info
  have hlen := hl.len
  have HV := hid (check_any a l cap (inI c 0 99 && inI d 0 999) w hl)
  by_cases h0 : askE l c d = 0
  · obtain ⟨h3, h4, h5, h6, h7⟩ := askE_ok h0
    have HM := hid (show histL l c d = (histR (recTo l c l.length) d (recTo l c l.length).length, 0) by rw [hist_rec]; exact if_pos h0)
    have g1 : inI c 0 99 = true := inI_iff.2 h6
    have g2 : inI d 0 999 = true := inI_iff.2 h7
    have HVb : Hid (Calls Try.prog 51 #[.slice a l.length cap, .bool true] w (IntR w 0)) := by
      have := HV.out
      unfold askE at h0
      rw [h0, g1, g2] at this
      exact this
    have HL := hid hl
    have hrl := recTo_len l c l.length
    clear h0 h4 h5 hl HV
    go_enter Try.func30, Try.ntmps30
    go_wp2_with fail
    refine (isChild_any _ _).mono ?_
    rintro e w' ⟨rfl, rfl⟩
    rw [g1]
    go_wp2_with fail
    refine (isDay_any _ _).mono ?_
    rintro e w' ⟨rfl, rfl⟩
    rw [g2]
    go_wp2_with fail
    refine HVb.out.mono ?_
    rintro e w0 ⟨q0, rfl⟩
    have HR := hid (recordOf_any a l l.length cap c w0 (HL.out.below q0) (Nat.le_refl _) (by omega))
    go_wp2_with fail
    refine HR.out.mono ?_
    rintro e w2 ⟨q2, A, cc, rfl, hA⟩
    have p2 := q0.trans (q2.mono q0.size)
    generalize recTo l c l.length = r at *
    have hsz := p2.size
    have HP2 := hid p2
    have HA := hid (fun W (h2 : Below w2.heap.size w2 W) => hA.below h2)
    clear hA HR p2 q2 q0
    go_wp2
    go_loopw [9, 27] (fun o i wr => ∃ k : Nat, k ≤ r.length ∧ i = .int .i64 k ∧ Hid (OwnF wr w2.heap.size o (histR r d k)) ∧ Below w2.heap.size w2 wr) (fun _ i _ => r.length - (intOf i).toNat)
    case atStart => exact ⟨0, Nat.zero_le _, rfl, OwnF.nil _ _, Below.refl _ _⟩
    case round =>
      obtain ⟨k, hk, rfl, HO, hB⟩ := hrel
      by_cases hlt : k < r.length
      · rcases (HA.out wr hB).at_ with e | ⟨b, off, rfl, hc⟩
        · rw [e] at hlt; simp at hlt
        obtain ⟨⟨c0, c1, c2, c3, c4⟩, c5⟩ := hc k hlt
        have hbl : b < wr.heap.size := cell_lt c0
        have HT := hid (show histR r d (k + 1) = if onB (kAt r k).1 d = true then histR r d k ++ [(kAt r k).1] else histR r d k from rfl)
        have hhl := histR_len r d k
        clear hc
        generalize kAt r k = x at *
        cases ho : onB x.1 d with
        | true =>
          have HX := hid ((HT.out).trans (if_pos ho))
          clear HT
          generalize histR r d k = s at *
          go_wp2_with fail
          refine (isOn_any x d _).mono ?_
          rintro e w4 ⟨q4, rfl⟩
          rw [ho]
          obtain ⟨hb3, hb4⟩ := bcell q4
          have hz4 : wr.heap.size + 1 ≤ w4.heap.size := by have := q4.size; simp at this; omega
          have hB4 := (hB.alloc hB.size _).trans (q4.mono (by simp; have := hB.size; omega))
          have hS2 := own_below HO.out (((Below.refl _ _).alloc (Nat.le_refl _) _).trans (q4.mono (by simp)))
          clear HO
          have hzB := hB4.size
          go_wp2_with (at_builtin; refine wpList_append_own _ rfl _ _ 22 rfl w2.heap.size 24 i0 (.agg #[.int .i64 0, .int .i64 0, .int .i64 0, .int .i64 0, .int .i64 0]) 5 40 Try.underlying22 hinf hz0 hz1 hz2 rfl (by decide) _ _ _ rfl (hS2.alloc _) ⟨w4.heap.size, 0, none⟩ 1 1 [.int .i64 x.1.a, .int .i64 x.1.c, .int .i64 x.1.f, .int .i64 x.1.t, .int .i64 x.1.m] rfl rfl ?c1 ?c2 ?c3 ?c4 ?c5 ?_)
          case c1 =>
            have := World.news_of_block (cs := #[.int .i64 x.1.a, .int .i64 x.1.c, .int .i64 x.1.f, .int .i64 x.1.t, .int .i64 x.1.m]) (t := 24) (fr := (0, 0)) (heap_alloc_new w4 (.cells #[.int .i64 x.1.a, .int .i64 x.1.c, .int .i64 x.1.f, .int .i64 x.1.t, .int .i64 x.1.m] 24))
            simpa using this
          case c2 => simp [Value.oneCell']
          case c3 => unfold maxLen; omega
          case c4 => omega
          case c5 => simp; omega
          intro v' w6 hown2 hgrow _
          have hnb : ∀ q, some q = u9.ownBlock → w2.heap.size ≤ q ∧ q < w4.heap.size := fun q hq => hS2.lt q hq.symm
          have p6 := (hB4.alloc hB4.size _).grown hgrow (by simp; omega) (fun q hq => (hnb q hq.symm).1)
          clear hgrow hS2 hnb
          go_wp2
          go_roundw
          case rel => exact ⟨k + 1, by omega, by go_num, by unfold Hid OwnF; rw [HX.out, fcCells_snoc]; simpa using hown2, p6⟩
          case measure => simp [intOf]; omega
        | false =>
          have HX := hid ((HT.out).trans (if_neg (by rw [ho]; simp)))
          clear HT
          go_wp2_with fail
          refine (isOn_any x d _).mono ?_
          rintro e w4 ⟨q4, rfl⟩
          rw [ho]
          have hB4 := (hB.alloc hB.size _).trans (q4.mono (by simp; have := hB.size; omega))
          have HO4 := hid (own_below HO.out (((Below.refl _ _).alloc (Nat.le_refl _) _).trans (q4.mono (by simp))))
          go_wp2
          go_roundw
          case rel => exact ⟨k + 1, by omega, by go_num, by unfold Hid; rw [HX.out]; exact HO4.out, hB4⟩
          case measure => simp [intOf]; omega
      · obtain rfl : k = r.length := by omega
        have hhl := histR_len r d r.length
        obtain ⟨A, c, rfl, hcl⟩ := HO.out.sl
        have hat := hid (HO.out.at_ (by omega))
        go_wp2
        go_ret2
        exact ⟨HP2.out.trans (hB.mono hsz), A, c, by rw [HM.out]; rfl, by rw [HM.out]; exact hcl, by rw [HM.out]; exact hat.out⟩
  · have HM := hid (show histL l c d = ([], askE l c d) from if_neg h0)
    have h0' : (askE l c d != 0) = true := by simp [h0]
    have HVb : Hid (Calls Try.prog 51 #[.slice a l.length cap, .bool (inI c 0 99 && inI d 0 999)] w (IntR w (askE l c d))) := HV.out
    clear h0 hl HV
    generalize askE l c d = x at *
    cases g1 : inI c 0 99 with
    | false =>
      rw [g1] at HVb
      go_enter Try.func30, Try.ntmps30
      go_wp2_with fail
      refine (isChild_any _ _).mono ?_
      rintro e w' ⟨rfl, rfl⟩
      rw [g1]
      go_wp2_with fail
      refine HVb.out.mono ?_
      rintro e w1 ⟨q1, rfl⟩
      go_wp2
      go_ret2
      exact ⟨q1, none, 0, by rw [HM.out]; rfl, by rw [HM.out]; exact Nat.le_refl _, by rw [HM.out]; exact factsNil _⟩
    | true =>
      rw [g1] at HVb
      go_enter Try.func30, Try.ntmps30
      go_wp2_with fail
      refine (isChild_any _ _).mono ?_
      rintro e w' ⟨rfl, rfl⟩
      rw [g1]
      go_wp2_with fail
      refine (isDay_any _ _).mono ?_
      rintro e w' ⟨rfl, rfl⟩
      go_wp2_with fail
      refine HVb.out.mono ?_
      rintro e w1 ⟨q1, rfl⟩
      go_wp2
      go_ret2
      exact ⟨q1, none, 0, by rw [HM.out]; rfl, by rw [HM.out]; exact Nat.le_refl _, by rw [HM.out]; exact factsNil _⟩

set_option maxRecDepth 100000 in
set_option maxHeartbeats 4000000 in
theorem rHistory_any (a : Option Addr) (l : List Fct) (cap : Nat) (c d : Int) (w : World) (hl : FactsAt w a l) :
  Calls Try.prog 31 #[.slice a l.length cap, .int .i64 c, .int .i64 d] w (FactsR w (histL l c d)) := by
  obtain ⟨i0, hinf, hz0, hz1, hz2⟩ := info_parts fc_info
  have hlen := hl.len
  have HV := hid (show Calls Try.prog 57 #[.slice a l.length cap, .int .i64 c, .int .i64 d] w (IntR w (askE l c d)) from asked_any a l cap c d w hl)
  by_cases h0 : askE l c d = 0
  · have HM := hid (show histL l c d = (histTo l c d l.length, 0) from if_pos h0)
    have h60 := (askE_ok h0).1
    rw [h0] at HV
    have HL := hid hl
    clear h0 hl
    go_enter Try.func31, Try.ntmps31
    go_wp2_with fail
    refine HV.out.mono ?_
    rintro e w0 ⟨q0, rfl⟩
    go_wp2
    go_loopw [9, 10] (fun o i wr => ∃ k : Nat, k ≤ l.length ∧ i = .int .i64 k ∧ Hid (OwnF wr w.heap.size o (histTo l c d k)) ∧ Below w.heap.size w wr) (fun _ i _ => l.length - (intOf i).toNat)
    case atStart => exact ⟨0, Nat.zero_le _, rfl, OwnF.nil _ _, q0⟩
    case round =>
      obtain ⟨k, hk, rfl, HO, hB⟩ := hrel
      by_cases hlt : k < l.length
      · rcases (HL.out.below hB).at_ with e | ⟨b, off, rfl, hc⟩
        · rw [e] at hlt; simp at hlt
        obtain ⟨c0, c1, c2, c3, c4⟩ := hc k hlt
        have hbl : b < wr.heap.size := cell_lt c0
        have HT := hid (show histTo l c d (k + 1) = if (fAt l k).c = c ∧ onB (fAt l k) d = true then histTo l c d k ++ [fAt l k] else histTo l c d k from rfl)
        have hhl := histTo_len l c d k
        clear hc
        generalize fAt l k = x at *
        by_cases h1 : x.c = c
        · have h1' : (x.c == c) = true := by simp [h1]
          by_cases h2 : x.f ≤ d
          · by_cases h3 : d < x.t
            · have HX := hid ((HT.out).trans (if_pos ⟨h1, by simp [onB]; omega⟩))
              clear HT h1
              generalize histTo l c d k = s at *
              have hS2 := HO.out
              clear HO
              have hzB := hB.size
              go_wp2_with (at_builtin; refine wpList_append_own _ rfl _ _ 22 rfl w.heap.size 24 i0 (.agg #[.int .i64 0, .int .i64 0, .int .i64 0, .int .i64 0, .int .i64 0]) 5 40 Try.underlying22 hinf hz0 hz1 hz2 rfl (by decide) _ _ _ rfl (hS2.alloc _) ⟨wr.heap.size, 0, none⟩ 1 1 [.int .i64 x.a, .int .i64 x.c, .int .i64 x.f, .int .i64 x.t, .int .i64 x.m] rfl rfl ?c1 ?c2 ?c3 ?c4 ?c5 ?_)
              case c1 =>
                have := World.news_of_block (cs := #[.int .i64 x.a, .int .i64 x.c, .int .i64 x.f, .int .i64 x.t, .int .i64 x.m]) (t := 24) (fr := (0, 0)) (heap_alloc_new wr (.cells #[.int .i64 x.a, .int .i64 x.c, .int .i64 x.f, .int .i64 x.t, .int .i64 x.m] 24))
                simpa using this
              case c2 => simp [Value.oneCell']
              case c3 => unfold maxLen; omega
              case c4 => omega
              case c5 => simp; omega
              intro v' w6 hown2 hgrow _
              have hnb : ∀ q, some q = u9.ownBlock → w.heap.size ≤ q ∧ q < wr.heap.size := fun q hq => hS2.lt q hq.symm
              have p6 := (hB.alloc hB.size _).grown hgrow (by simp; omega) (fun q hq => (hnb q hq.symm).1)
              clear hgrow hS2 hnb
              go_wp2
              go_roundw
              case rel => exact ⟨k + 1, by omega, by go_num, by unfold Hid OwnF; rw [HX.out, fcCells_snoc]; simpa using hown2, p6⟩
              case measure => simp [intOf]; omega
            · have h3' : x.t ≤ d := by omega
              have HX := hid ((HT.out).trans (if_neg (by simp [onB]; omega)))
              clear h1 h3
              clear HT
              generalize histTo l c d k = s at *
              go_wp2
              go_roundw
              case rel => exact ⟨k + 1, by omega, by go_num, by unfold Hid; rw [HX.out]; exact HO.out, hB⟩
              case measure => simp [intOf]; omega
          · have h2' : d < x.f := by omega
            have HX := hid ((HT.out).trans (if_neg (by simp [onB]; omega)))
            clear h1 h2
            clear HT
            generalize histTo l c d k = s at *
            go_wp2
            go_roundw
            case rel => exact ⟨k + 1, by omega, by go_num, by unfold Hid; rw [HX.out]; exact HO.out, hB⟩
            case measure => simp [intOf]; omega
        · have h1' : (x.c == c) = false := by simp [h1]
          have HX := hid ((HT.out).trans (if_neg (by exact fun g => h1 g.1)))
          clear h1
          clear HT
          generalize histTo l c d k = s at *
          go_wp2
          go_roundw
          case rel => exact ⟨k + 1, by omega, by go_num, by unfold Hid; rw [HX.out]; exact HO.out, hB⟩
          case measure => simp [intOf]; omega
      · obtain rfl : k = l.length := by omega
        have hhl := histTo_len l c d l.length
        obtain ⟨A, cc, rfl, hcl⟩ := HO.out.sl
        have hat := hid (HO.out.at_ (by omega))
        go_wp2
        go_ret2
        exact ⟨hB, A, cc, by rw [HM.out]; rfl, by rw [HM.out]; exact hcl, by rw [HM.out]; exact hat.out⟩
  · have HM := hid (show histL l c d = ([], askE l c d) from if_neg h0)
    have h0' : (askE l c d != 0) = true := by simp [h0]
    clear h0 hl
    generalize askE l c d = x at *
    go_enter Try.func31, Try.ntmps31
    go_wp2_with fail
    refine HV.out.mono ?_
    rintro e w1 ⟨q1, rfl⟩
    go_wp2
    go_ret2
    exact ⟨q1, none, 0, by rw [HM.out]; rfl, by rw [HM.out]; exact Nat.le_refl _, by rw [HM.out]; exact factsNil _⟩

set_option maxRecDepth 100000 in
set_option maxHeartbeats 4000000 in
theorem rUntil_any (a : Option Addr) (l : List Fct) (cap : Nat) (at_ : Int) (w : World) (hl : FactsAt w a l) :
  Calls Try.prog 33 #[.slice a l.length cap, .int .i64 at_] w (FactsR w (untilL l at_)) := by
  obtain ⟨i0, hinf, hz0, hz1, hz2⟩ := info_parts fc_info
  have hlen := hl.len
  have HV := hid (rvalidate_any a l cap w hl)
  by_cases h0 : validE l = 0
  · obtain ⟨h60, _, hs⟩ := validE_ok h0
    have HM := hid (show untilL l at_ = (untilTo l at_ l.length, 0) by rw [until_cut hs]; exact if_pos h0)
    rw [h0] at HV
    have HL := hid hl
    clear h0 hl hs
    go_enter Try.func33, Try.ntmps33
    go_wp2_with fail
    refine HV.out.mono ?_
    rintro e w0 ⟨q0, rfl⟩
    go_wp2
    go_loopw [7, 8] (fun o i wr => ∃ k : Nat, k ≤ l.length ∧ i = .int .i64 k ∧ Hid (OwnF wr w.heap.size o (untilTo l at_ k)) ∧ Below w.heap.size w wr) (fun _ i _ => l.length - (intOf i).toNat)
    case atStart => exact ⟨0, Nat.zero_le _, rfl, OwnF.nil _ _, q0⟩
    case round =>
      obtain ⟨k, hk, rfl, HO, hB⟩ := hrel
      by_cases hlt : k < l.length
      · rcases (HL.out.below hB).at_ with e | ⟨b, off, rfl, hc⟩
        · rw [e] at hlt; simp at hlt
        obtain ⟨c0, c1, c2, c3, c4⟩ := hc k hlt
        have hbl : b < wr.heap.size := cell_lt c0
        have HT := hid (show untilTo l at_ (k + 1) = if (fAt l k).a ≤ at_ then untilTo l at_ k ++ [fAt l k] else untilTo l at_ k from rfl)
        have hhl := untilTo_len l at_ k
        clear hc
        generalize fAt l k = x at *
        by_cases h1 : x.a ≤ at_
        · have HX := hid ((HT.out).trans (if_pos h1))
          clear HT
          generalize untilTo l at_ k = s at *
          have hS2 := HO.out
          clear HO
          have hzB := hB.size
          go_wp2_with (at_builtin; refine wpList_append_own _ rfl _ _ 22 rfl w.heap.size 24 i0 (.agg #[.int .i64 0, .int .i64 0, .int .i64 0, .int .i64 0, .int .i64 0]) 5 40 Try.underlying22 hinf hz0 hz1 hz2 rfl (by decide) _ _ _ rfl (hS2.alloc _) ⟨wr.heap.size, 0, none⟩ 1 1 [.int .i64 x.a, .int .i64 x.c, .int .i64 x.f, .int .i64 x.t, .int .i64 x.m] rfl rfl ?c1 ?c2 ?c3 ?c4 ?c5 ?_)
          case c1 =>
            have := World.news_of_block (cs := #[.int .i64 x.a, .int .i64 x.c, .int .i64 x.f, .int .i64 x.t, .int .i64 x.m]) (t := 24) (fr := (0, 0)) (heap_alloc_new wr (.cells #[.int .i64 x.a, .int .i64 x.c, .int .i64 x.f, .int .i64 x.t, .int .i64 x.m] 24))
            simpa using this
          case c2 => simp [Value.oneCell']
          case c3 => unfold maxLen; omega
          case c4 => omega
          case c5 => simp; omega
          intro v' w6 hown2 hgrow _
          have hnb : ∀ q, some q = u7.ownBlock → w.heap.size ≤ q ∧ q < wr.heap.size := fun q hq => hS2.lt q hq.symm
          have p6 := (hB.alloc hB.size _).grown hgrow (by simp; omega) (fun q hq => (hnb q hq.symm).1)
          clear hgrow hS2 hnb
          go_wp2
          go_roundw
          case rel => exact ⟨k + 1, by omega, by go_num, by unfold Hid OwnF; rw [HX.out, fcCells_snoc]; simpa using hown2, p6⟩
          case measure => simp [intOf]; omega
        · have h1' : at_ < x.a := by omega
          have HX := hid ((HT.out).trans (if_neg (by exact h1)))
          clear h1
          clear HT
          generalize untilTo l at_ k = s at *
          go_wp2
          go_roundw
          case rel => exact ⟨k + 1, by omega, by go_num, by unfold Hid; rw [HX.out]; exact HO.out, hB⟩
          case measure => simp [intOf]; omega
      · obtain rfl : k = l.length := by omega
        have hhl := untilTo_len l at_ l.length
        obtain ⟨A, cc, rfl, hcl⟩ := HO.out.sl
        have hat := hid (HO.out.at_ (by omega))
        go_wp2
        go_ret2
        exact ⟨hB, A, cc, by rw [HM.out]; rfl, by rw [HM.out]; exact hcl, by rw [HM.out]; exact hat.out⟩
  · have HM := hid (show untilL l at_ = ([], validE l) from if_neg h0)
    have h0' : (validE l != 0) = true := by simp [h0]
    clear h0 hl
    generalize validE l = x at *
    go_enter Try.func33, Try.ntmps33
    go_wp2_with fail
    refine HV.out.mono ?_
    rintro e w1 ⟨q1, rfl⟩
    go_wp2
    go_ret2
    exact ⟨q1, none, 0, by rw [HM.out]; rfl, by rw [HM.out]; exact Nat.le_refl _, by rw [HM.out]; exact factsNil _⟩
end Go.Proofs.Ytkepjoociidkcaa
