/- The law OrderNeeds: its walk. -/
import Derived.Test.YtkepjoociidkcaaOrNeed
import Derived.Test.YtkepjoociidkcaaOrUntil
set_option linter.unusedVariables false
namespace Go.Proofs.Ytkepjoociidkcaa
open Go.RowKit

theorem known_rest (l : List Fct) (at_ c d : Int) (h : validE l = 0) : knownL (restTo l l.length) at_ c d = knownL l at_ c d := by
  have hv := rest_valid h
  have hE : askE (restTo l l.length) c d = askE l c d := by unfold askE chkE; rw [if_pos h, if_pos hv]
  unfold knownL
  rw [hE, ← refMeal_cut (validE_ok hv).2.2, ← refMeal_cut (validE_ok h).2.2, rest_meal (validE_ok h).2.2]

set_option maxRecDepth 100000 in
set_option maxHeartbeats 4000000 in
theorem orderNeeds_ok (a : Option Addr) (l : List Fct) (cap : Nat) (x y z : Int) (w : World) (hl : FactsAt w a l) (hcap : l.length ≤ cap) (hv : validE l = 0) :
  Calls Try.prog 9 #[.slice a l.length cap, .agg #[.int .i64 x, .int .i64 y, .int .i64 z]] w (BoolR w true) := by
  obtain ⟨i0, hinf, hz0, hz1, hz2⟩ := info_parts fc_info
  have hlen := hl.len
  have h60 := (validE_ok hv).1
  have HA := hid (askAt_new w x y z 36)
  have HL := hid hl
  have hB0 := hid (below_new w (.cells #[.int .i64 x, .int .i64 y, .int .i64 z] 36))
  have hd2 : decide ((200 : Int) < (l.length : Int)) = false := by simp; omega
  have HK1 := hid (fun W (h : FactsAt W a l) => Needless_any a l cap W h hcap)
  have HK2 := hid (fun W (h : FactsAt W a l) => rNeedless_any a l cap W h)
  have HK5 := hid (fun W (h : FactsAt W a l) => Known_any a l cap x y z W h hcap)
  have HK6 := hid (fun W A c (h : FactsAt W A (restTo l l.length)) (hc : (restTo l l.length).length ≤ c) => Known_any A (restTo l l.length) c x y z W h hc)
  rw [show needL l = (needTo l l.length, 0) from if_pos hv] at HK1 HK2
  rw [known_rest l x y z hv] at HK6
  have HNx := hid (fun k (hk : k < l.length) => needTo_next l k l.length hk)
  have HNs := hid (needTo_succ l)
  have HRs := hid (restTo_succ l)
  have HRl := hid (restTo_len l)
  have HNl := hid (needTo_len l)
  generalize knownL l x y z = kk at *
  obtain ⟨m1, f1⟩ := kk
  clear hl hv
  go_enter Try.func9, Try.ntmps9
  go_wp2_with fail
  refine (long5_any _ _ _ _ (by omega)).mono ?_
  rintro e w' ⟨rfl, rfl⟩
  generalize w.alloc (.cells #[.int .i64 x, .int .i64 y, .int .i64 z] 36) = W0 at *
  rw [hd2]
  go_wp2_with fail
  refine (HK1.out W0 (HL.out.below hB0.out)).mono ?_
  rintro e w1 ⟨q1, A1, c1, rfl, hA1⟩
  have p1 := hB0.out.trans (q1.mono hB0.out.size)
  have HB1 := hid (HA.out.below q1)
  have HX1 := hid hA1
  clear hA1
  go_wp2_with fail
  refine (HK2.out w1 (HL.out.below p1)).mono ?_
  rintro e w2 ⟨q2, A2, c2, rfl, hA2⟩
  have p2 := p1.trans (q2.mono p1.size)
  have HB2 := hid (HB1.out.below q2)
  have HX2 := hid (HX1.out.below q2)
  have hnl := hA2.len
  have HS := hid (sameInts5_any A1 A2 _ c1 c2 w2 HX2.out hA2)
  clear hA2
  go_wp2_with fail
  refine HS.out.mono ?_
  rintro e w' ⟨n, rfl, rfl⟩
  have p3 := below_drewN p2 n
  have HB3 := hid (HB2.out.below (below_drewN (Below.refl _ _) n))
  have HX3 := hid (HX2.out.below (below_drewN (Below.refl _ _) n))
  clear HS HB2 HX2
  generalize w2.drewN n = w3 at *
  go_wp2
  have hs3 := p3.size
  have HXB := hid (fun W (h : Below w3.heap.size w3 W) => HX3.out.below h)
  have HAB := hid (fun W (h : Below w3.heap.size w3 W) => HB3.out.below h)
  have HLB := hid (fun W (h : Below w3.heap.size w3 W) => HL.out.below (p3.trans (h.mono hs3)))
  have HP3 := hid p3
  clear HX3 HB3 HX1 HB1 HA HL HK1 HK2 q1 q2 p1 p2 p3
  go_loopw [9, 10, 11] (fun o at_ i wr => ∃ k : Nat, k ≤ l.length ∧ i = .int .i64 k ∧ at_ = .int .i64 ((needTo l k).length : Int) ∧ Hid (OwnF wr w3.heap.size o (restTo l k)) ∧ Below w3.heap.size w3 wr) (fun _ _ i _ => l.length - (intOf i).toNat)
  case atStart => exact ⟨0, Nat.zero_le _, rfl, rfl, OwnF.nil _ _, Below.refl _ _⟩
  case round =>
    obtain ⟨k, hk, rfl, rfl, HO, hB⟩ := hrel
    by_cases hlt : k < l.length
    · obtain ⟨hn1, hn2⟩ := HNx.out k hlt
      have hnk := HNl.out k
      have hrk := HRl.out k
      have HNk0 := hid (HNs.out k)
      have HRk0 := hid (HRs.out k)
      have HXr := hid (HXB.out wr hB)
      cases hu : usedB l k with
      | false =>
        obtain ⟨hn3, hn4⟩ := hn1 hu
        have HNk := hid (show (needTo l (k + 1)).length = (needTo l k).length + 1 by rw [HNk0.out, if_neg (by rw [hu]; simp)]; simp)
        have HRk := hid (show restTo l (k + 1) = restTo l k by rw [HRk0.out, if_neg (by rw [hu]; simp)])
        clear hn1 hn2
        rcases HXr.out.at_ with e | ⟨b, off, rfl, hc⟩
        · rw [e] at hn3; simp at hn3
        have c0 := hc _ hn3
        rw [hn4] at c0
        have j0 : (0 : Int) ≤ ((needTo l k).length : Int) := by omega
        have j1 : ((needTo l k).length : Int) < ((needTo l l.length).length : Int) := by omega
        generalize (needTo l k).length = j at *
        generalize (needTo l l.length).length = N at *
        clear hc
        go_wp2
        go_roundw
        case rel => exact ⟨k + 1, by omega, by go_num, by rw [HNk.out]; go_num, by unfold Hid; rw [HRk.out]; exact HO.out, hB⟩
        case measure => simp [intOf]; omega
      | true =>
        have hn3 := hn2 hu
        have HNk := hid (show needTo l (k + 1) = needTo l k by rw [HNk0.out, if_pos hu])
        have HRk := hid (show restTo l (k + 1) = restTo l k ++ [fAt l k] by rw [HRk0.out, if_pos hu])
        have hF := (HLB.out wr hB)
        rcases hF.at_ with e | ⟨b, off, rfl, hc⟩
        · rw [e] at hlt; simp at hlt
        obtain ⟨c0, c1, c2, c3, c4⟩ := hc k hlt
        have k0 : (0 : Int) ≤ (k : Int) := by omega
        have k1 : (k : Int) < (l.length : Int) := by omega
        have hS2 := HO.out
        have hzB := hB.size
        clear hc hF hn1 hn2 HO HRk0 HNk0
        generalize fAt l k = v at *
        generalize restTo l k = rs at *
        by_cases hj : (needTo l k).length < (needTo l l.length).length
        · have hn4 := hn3 hj
          rcases HXr.out.at_ with e | ⟨b2, off2, rfl, hc⟩
          · rw [e] at hj; simp at hj
          have e0 := hc _ hj
          have hne : ((needTo l l.length)[(needTo l k).length]?.getD 0 == (k : Int)) = false := by simpa using hn4
          generalize (needTo l l.length)[(needTo l k).length]?.getD 0 = u at *
          have j0 : (0 : Int) ≤ ((needTo l k).length : Int) := by omega
          have j1 : ((needTo l k).length : Int) < ((needTo l l.length).length : Int) := by omega
          generalize hjj : (needTo l k).length = j at *
          generalize (needTo l l.length).length = N at *
          clear hc hn3 hn4
          go_wp2_with (at_builtin; refine wpList_append_own _ rfl _ _ 22 rfl w3.heap.size 24 i0 (.agg #[.int .i64 0, .int .i64 0, .int .i64 0, .int .i64 0, .int .i64 0]) 5 40 Try.underlying22 hinf hz0 hz1 hz2 rfl (by decide) _ _ _ rfl (hS2.alloc _) ⟨wr.heap.size, 0, none⟩ 1 1 [.int .i64 v.a, .int .i64 v.c, .int .i64 v.f, .int .i64 v.t, .int .i64 v.m] rfl rfl ?d1 ?d2 ?d3 ?d4 ?d5 ?_)
          case d1 =>
            have := World.news_of_block (cs := #[.int .i64 v.a, .int .i64 v.c, .int .i64 v.f, .int .i64 v.t, .int .i64 v.m]) (t := 24) (fr := (0, 0)) (heap_alloc_new wr (.cells #[.int .i64 v.a, .int .i64 v.c, .int .i64 v.f, .int .i64 v.t, .int .i64 v.m] 24))
            simpa using this
          case d2 => simp [Value.oneCell']
          case d3 => unfold maxLen; omega
          case d4 => omega
          case d5 => first | omega | (simp; omega)
          intro v' w6 hown2 hgrow _
          have p6 := (hB.alloc hB.size _).grown hgrow (by simp; omega) (fun q hq => (hS2.lt q hq).1)
          clear hgrow hS2
          go_wp2
          go_roundw
          case rel => exact ⟨k + 1, by omega, by go_num, by rw [HNk.out, hjj], by unfold Hid OwnF; rw [HRk.out, fcCells_snoc]; simpa using hown2, p6⟩
          case measure => simp [intOf]; omega
        · have j1 : ¬ ((needTo l k).length : Int) < ((needTo l l.length).length : Int) := by omega
          generalize hjj : (needTo l k).length = j at *
          generalize (needTo l l.length).length = N at *
          clear hn3
          go_wp2_with (at_builtin; refine wpList_append_own _ rfl _ _ 22 rfl w3.heap.size 24 i0 (.agg #[.int .i64 0, .int .i64 0, .int .i64 0, .int .i64 0, .int .i64 0]) 5 40 Try.underlying22 hinf hz0 hz1 hz2 rfl (by decide) _ _ _ rfl (hS2.alloc _) ⟨wr.heap.size, 0, none⟩ 1 1 [.int .i64 v.a, .int .i64 v.c, .int .i64 v.f, .int .i64 v.t, .int .i64 v.m] rfl rfl ?d1 ?d2 ?d3 ?d4 ?d5 ?_)
          case d2 => simp [Value.oneCell']
          case d3 => unfold maxLen; omega
          case d4 => omega
          case d5 => first | omega | (simp; omega)
          intro v' w6 hown2 hgrow _
          have p6 := (hB.alloc hB.size _).grown hgrow (by simp; omega) (fun q hq => (hS2.lt q hq).1)
          clear hgrow hS2
          go_wp2
          go_roundw
          case rel => exact ⟨k + 1, by omega, by go_num, by rw [HNk.out, hjj], by unfold Hid OwnF; rw [HRk.out, fcCells_snoc]; simpa using hown2, p6⟩
          case measure => simp [intOf]; omega
    · obtain rfl : k = l.length := by omega
      have hrl := HRl.out l.length
      obtain ⟨R, rc, rfl, hrc⟩ := HO.out.sl
      have hat := hid (HO.out.at_ (by omega))
      have HBe := hid (HAB.out wr hB)
      obtain ⟨x0, x1, x2⟩ := HBe.out
      clear HO HNx HNs HRs HRl HNl HXB
      generalize restTo l l.length = rs at *
      go_wp2_with fail
      refine (HK5.out wr (HLB.out wr hB)).mono ?_
      rintro e w4 ⟨q4, rfl⟩
      have p4 := hB.trans (q4.mono hB.size)
      have HB4 := hid (HBe.out.below q4)
      obtain ⟨x0, x1, x2⟩ := HB4.out
      go_wp2_with fail
      refine (HK6.out w4 R rc (hat.out.below q4) hrc).mono ?_
      rintro e w5 ⟨q5, rfl⟩
      have p5 := p4.trans (q5.mono p4.size)
      go_wp2_with fail
      refine (known5_any _).mono ?_
      rintro e w9 ⟨q9, rfl⟩
      go_wp2
      go_ret
      exact ⟨HP3.out.trans ((p5.trans (q9.mono p5.size)).mono hs3), rfl⟩

set_option maxRecDepth 100000 in
set_option maxHeartbeats 2000000 in
theorem orderNeeds_err (a : Option Addr) (l : List Fct) (cap : Nat) (x y z : Int) (w : World) (hl : FactsAt w a l) (hcap : l.length ≤ cap) (h200 : l.length ≤ 200) (hv : ¬ validE l = 0) :
  Calls Try.prog 9 #[.slice a l.length cap, .agg #[.int .i64 x, .int .i64 y, .int .i64 z]] w (BoolR w true) := by
  have hlen := hl.len
  have HL := hid hl
  have hB0 := hid (below_new w (.cells #[.int .i64 x, .int .i64 y, .int .i64 z] 36))
  have hd2 : decide ((200 : Int) < (l.length : Int)) = false := by simp; omega
  have HK1 := hid (fun W (h : FactsAt W a l) => Needless_any a l cap W h hcap)
  have HK2 := hid (fun W (h : FactsAt W a l) => rNeedless_any a l cap W h)
  rw [show needL l = ([], validE l) from if_neg hv] at HK1 HK2
  have hv' : (validE l != 0) = true := by simp [hv]
  clear hv hl
  generalize validE l = e1 at *
  go_enter Try.func9, Try.ntmps9
  go_wp2_with fail
  refine (long5_any _ _ _ _ (by omega)).mono ?_
  rintro e w' ⟨rfl, rfl⟩
  generalize w.alloc (.cells #[.int .i64 x, .int .i64 y, .int .i64 z] 36) = W0 at *
  rw [hd2]
  go_wp2_with fail
  refine (HK1.out W0 (HL.out.below hB0.out)).mono ?_
  rintro e w1 ⟨q1, A1, c1, rfl, hA1⟩
  have p1 := hB0.out.trans (q1.mono hB0.out.size)
  have HX1 := hid hA1
  clear hA1
  go_wp2_with fail
  refine (HK2.out w1 (HL.out.below p1)).mono ?_
  rintro e w2 ⟨q2, A2, c2, rfl, hA2⟩
  have p2 := p1.trans (q2.mono p1.size)
  have HS := hid (sameInts5_any A1 A2 _ c1 c2 w2 (HX1.out.below q2) hA2)
  clear hA2
  go_wp2_with fail
  refine HS.out.mono ?_
  rintro e w' ⟨n, rfl, rfl⟩
  have p3 := below_drewN p2 n
  go_wp2_with fail
  refine (known5_any _).mono ?_
  rintro e w9 ⟨q9, rfl⟩
  go_wp2
  go_ret
  exact ⟨p3.trans (q9.mono p3.size), rfl⟩

set_option maxRecDepth 100000 in
set_option maxHeartbeats 1000000 in
theorem orderNeeds_long (a : Option Addr) (n cap : Nat) (x y z : Int) (w : World) (h0 : n ≤ 9223372036854775807) (h200 : 200 < n) :
  Calls Try.prog 9 #[.slice a n cap, .agg #[.int .i64 x, .int .i64 y, .int .i64 z]] w (BoolR w true) := by
  have hB0 := hid (below_new w (.cells #[.int .i64 x, .int .i64 y, .int .i64 z] 36))
  have hd2 : decide ((200 : Int) < (n : Int)) = true := by simp; omega
  go_enter Try.func9, Try.ntmps9
  go_wp2_with fail
  refine (long5_any _ _ _ _ h0).mono ?_
  rintro e w' ⟨rfl, rfl⟩
  rw [hd2]
  go_wp2_with fail
  refine (known5_any _).mono ?_
  rintro e w5 ⟨q5, rfl⟩
  go_wp2
  go_ret
  exact ⟨hB0.out.trans (q5.mono (by simp)), rfl⟩
theorem orderNeeds_walk (a : Option Addr) (l : List Fct) (cap : Nat) (x y z : Int) (w : World) (h0 : l.length ≤ 9223372036854775807) (hl : l.length ≤ 140737488355328 → FactsAt w a l) (hcap : l.length ≤ cap) :
  Calls Try.prog 9 #[.slice a l.length cap, .agg #[.int .i64 x, .int .i64 y, .int .i64 z]] w (BoolR w true) := by
  by_cases h : 200 < l.length
  · exact orderNeeds_long a l.length cap x y z w h0 h
  · by_cases hv : validE l = 0
    · exact orderNeeds_ok a l cap x y z w (hl (by omega)) hcap hv
    · exact orderNeeds_err a l cap x y z w (hl (by omega)) hcap (by omega) hv
end Go.Proofs.Ytkepjoociidkcaa
