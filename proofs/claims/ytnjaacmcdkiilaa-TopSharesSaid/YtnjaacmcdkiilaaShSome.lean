/- Some of package share and the document's own. -/
import Derived.Test.YtnjaacmcdkiilaaShSomM
import Derived.Test.YtnjaacmcdkiilaaShS
import Derived.Test.YtnjaacmcdkiilaaShU
import Derived.IntWalk
set_option linter.unusedVariables false
namespace Go.Proofs.Ytnjaacmcdkiilaa
open Go.RowKit

theorem some_prog {ss : List Int} {n : Nat} : someB ss n = (decide (∀ i, i < ss.length → 0 < i → at0 ss (i - 1) < at0 ss i) && (decide (1 ≤ ss.length) && allIn 0 ((n : Int) - 1) ss)) := by
  rw [Bool.eq_iff_iff, someB_iff, Bool.and_eq_true, Bool.and_eq_true, decide_eq_true_iff, decide_eq_true_iff]
  constructor
  · rintro ⟨h1, h2⟩
    exact ⟨fun i hi h0 => (h2 i hi).2 h0, h1, all_of_at fun k hk => by have := (h2 k hk).1; omega⟩
  · rintro ⟨h1, h2, h3⟩
    exact ⟨h2, fun i hi => ⟨by have : 0 ≤ at0 ss i ∧ at0 ss i ≤ (n : Int) - 1 := allIn_at h3 i hi; omega, h1 i hi⟩⟩

set_option maxRecDepth 100000 in
set_option maxHeartbeats 2000000 in
theorem isSome_any (a : Option Addr) (ss : List Int) (cap n : Nat) (w : World) (h : Ints w a ss) (hl : ss.length ≤ 1000000) (hn : n ≤ 1000000) :
  Calls Try.prog 79 #[.slice a ss.length cap, .int .i64 (n : Int)] w (SaysR w (someB ss n)) := by
  have HW := hid (areWithin_any a ss cap 0 ((n : Int) - 1) w h)
  have HS := hid (some_prog (ss := ss) (n := n))
  have HH := hid h
  clear h
  go_enter Try.func79, Try.ntmps79
  go_wp2
  go_loop [9] (fun i => ∃ j : Nat, j ≤ ss.length ∧ i = .int .i64 (j : Int) ∧ Hid (∀ i, i < j → 0 < i → at0 ss (i - 1) < at0 ss i)) (fun i => ss.length - (intOf i).toNat)
  case atStart => exact ⟨0, Nat.zero_le _, rfl, fun i hi => by omega⟩
  case round =>
    obtain ⟨j, hj, rfl, HP⟩ := hrel
    by_cases hlt : j < ss.length
    · rcases HH.out.at_ with e | ⟨b, off, rfl, hc⟩
      · rw [e] at hlt; simp at hlt
      have c0 := hc j hlt
      have hj0 : (0 : Int) ≤ (j : Int) := Int.natCast_nonneg _
      have hj2 : (j : Int) < (ss.length : Int) := by omega
      by_cases hz : j = 0
      · subst hz
        rw [Nat.add_zero] at c0
        clear hc
        generalize ss[0]?.getD 0 = x at *
        go_wp2
        go_round
        case rel => exact ⟨1, by omega, by go_num, fun i hi h0 => by omega⟩
        case measure => simp [intOf]; omega
      · obtain ⟨k, rfl⟩ : ∃ k, j = k + 1 := ⟨j - 1, by omega⟩
        have c1 := hc k (by omega)
        have HQ := hid (show ss[k]?.getD 0 < ss[k + 1]?.getD 0 → ∀ i, i < k + 1 + 1 → 0 < i → at0 ss (i - 1) < at0 ss i from fun h i hi h0 => by
          by_cases e : i = k + 1
          · subst e; exact h
          · exact HP.out i (by omega) h0)
        have HN := hid (show ¬ ss[k]?.getD 0 < ss[k + 1]?.getD 0 → someB ss n = false from fun h => by
          rw [HS.out, decide_eq_false (fun g => h (g (k + 1) hlt (by omega)))]; rfl)
        have hkp : (0 : Int) < ((k + 1 : Nat) : Int) := by omega
        clear hc
        generalize ss[k]?.getD 0 = y at *
        generalize ss[k + 1]?.getD 0 = x at *
        by_cases hx : y < x
        · have HX := hid (HQ.out hx)
          have hx2 : ¬ x ≤ y := by omega
          go_wp2
          go_round
          case rel => exact ⟨k + 1 + 1, by omega, by go_num, HX.out⟩
          case measure => simp [intOf]; omega
        · have HX := hid (HN.out hx)
          have hx2 : x ≤ y := by omega
          clear hx
          go_wp2
          go_ret
          exact ⟨rfl, by rw [HX.out]; rfl⟩
    · obtain rfl : j = ss.length := by omega
      have HS2 := hid (show someB ss n = (decide (1 ≤ ss.length) && allIn 0 ((n : Int) - 1) ss) by rw [HS.out, decide_eq_true HP.out, Bool.true_and])
      by_cases h0 : 1 ≤ ss.length
      · have HS3 := hid (show someB ss n = allIn 0 ((n : Int) - 1) ss by rw [HS2.out, decide_eq_true h0, Bool.true_and])
        have h0' : (0 : Int) < (ss.length : Int) := by omega
        cases hb : allIn 0 ((n : Int) - 1) ss with
        | true =>
          rw [hb] at HW HS3
          have HS3 := hid HS3.out
          clear hb
          go_wp2_with fail
          refine HW.out.mono ?_
          rintro e w' ⟨rfl, rfl⟩
          go_wp2
          go_ret
          exact ⟨rfl, by rw [HS3.out]; rfl⟩
        | false =>
          rw [hb] at HW HS3
          have HS3 := hid HS3.out
          clear hb
          go_wp2_with fail
          refine HW.out.mono ?_
          rintro e w' ⟨rfl, rfl⟩
          go_wp2
          go_ret
          exact ⟨rfl, by rw [HS3.out]; rfl⟩
      · have HS3 := hid (show someB ss n = false by rw [HS2.out, decide_eq_false h0]; rfl)
        have h0' : (ss.length : Int) ≤ 0 := by omega
        have h0d : decide ((0 : Int) < (ss.length : Int)) = false := decide_eq_false (by omega)
        clear h0
        go_wp2
        go_ret
        exact ⟨rfl, by rw [HS3.out]; rfl⟩

def smE (os ss : List Int) (n kind : Int) : Bool := divE os n kind && someB ss os.length
def smL (os ss : List Int) (n kind : Int) : List Int := if smE os ss n kind then (giveL kind (pickL os ss) n.toNat).2 else []
theorem smL_vals (os ss : List Int) (n kind : Int) : (∀ x ∈ smL os ss n kind, 0 ≤ x ∧ x ≤ 1000) ∧ (smL os ss n kind).length ≤ 8 := by
  unfold smL
  split
  · rename_i h
    simp only [smE, Bool.and_eq_true] at h
    obtain ⟨g1, g2, m, rfl, hm⟩ := divE_ok h.1
    have := okO_len (pick_okO g1 h.2)
    exact ⟨giveL_vals _ _ _ (by omega), by rw [giveL_len2]; omega⟩
  · exact ⟨fun x hx => (by cases hx), by simp⟩

set_option maxRecDepth 100000 in
set_option maxHeartbeats 4000000 in
theorem some_any (oa sa : Option Addr) (os ss : List Int) (oc sc : Nat) (n kind : Int) (w : World) (ho : Ints w oa os) (hs : Ints w sa ss) (hl : ss.length ≤ 1000000) :
  Calls Try.prog 40 #[.slice oa os.length oc, .slice sa ss.length sc, .int .i64 n, .int .i64 kind] w (ListE w (smL os ss n kind) (err (smE os ss n kind))) := by
  have HV := hid (checkDividing_any oa os oc n kind w ho)
  cases hd : divE os n kind with
  | false =>
    have hE : smE os ss n kind = false := by rw [smE, hd]; rfl
    have HD := hid (show smL os ss n kind = [] by rw [smL, hE]; rfl)
    rw [hE]
    rw [hd] at HV
    clear hd ho hs hE
    go_enter Try.func40, Try.ntmps40
    go_wp2_with fail
    refine HV.out.mono ?_
    rintro e w' ⟨rfl, rfl⟩
    rw [show err false = 1 from rfl]
    go_wp2
    go_ret2
    exact ⟨Below.refl _ _, none, 0, by rw [HD.out]; rfl, by rw [HD.out]; exact Own.nil _ _⟩
  | true =>
    obtain ⟨g1, g2, m, rfl, hm⟩ := divE_ok hd
    have h8 := okO_len g1
    have hl8 := h8.2.1
    have HI := hid (isSome_any sa ss sc os.length w hs hl (by omega))
    cases hb : someB ss os.length with
    | false =>
      have hE : smE os ss (m : Int) kind = false := by rw [smE, hd, hb]; rfl
      have HD := hid (show smL os ss (m : Int) kind = [] by rw [smL, hE]; rfl)
      rw [hE]
      rw [hd] at HV
      rw [hb] at HI
      clear hd ho hs hE hb g1 g2
      go_enter Try.func40, Try.ntmps40
      go_wp2_with fail
      refine HV.out.mono ?_
      rintro e w' ⟨rfl, rfl⟩
      rw [show err true = 0 from rfl]
      go_wp2_with fail
      refine HI.out.mono ?_
      rintro e w' ⟨rfl, rfl⟩
      go_wp2
      go_ret2
      exact ⟨Below.refl _ _, none, 0, by rw [HD.out]; rfl, by rw [HD.out]; exact Own.nil _ _⟩
    | true =>
      obtain ⟨i0, hi, hz0, hz1, hz2⟩ := info_parts int_info
      have hE : smE os ss (m : Int) kind = true := by rw [smE, hd, hb]; rfl
      have HD := hid (show smL os ss (m : Int) kind = (giveL kind (pickL os ss) m).2 by rw [smL, hE, if_pos rfl, Int.toNat_natCast])
      have hop := pick_okO g1 hb
      have hsl := some_len (someB_iff.1 hb).2
      have HAt := hid (someB_iff.1 hb).2
      have HGv := hid (fun (A : Option Addr) (c : Nat) (w' : World) (hi : Ints w' A (pickL os ss)) => giveAway_any kind A (pickL os ss) c m w' hi hop g2 hm)
      rw [pickL_len] at HGv
      have HPv := hid (okO_vals hop)
      have HO := hid ho
      have HSs := hid hs
      rw [hE]
      rw [hd] at HV
      rw [hb] at HI
      clear hd ho hs hE hb g1 g2 hop
      go_enter Try.func40, Try.ntmps40
      go_wp2_with fail
      refine HV.out.mono ?_
      rintro e w' ⟨rfl, rfl⟩
      rw [show err true = 0 from rfl]
      go_wp2_with fail
      refine HI.out.mono ?_
      rintro e w' ⟨rfl, rfl⟩
      go_wp2
      go_loopw [11, 30] (fun v i wr => ∃ k : Nat, k ≤ ss.length ∧ i = .int .i64 (k : Int) ∧ wr.ownsRow w.heap.size 3 1 v k ((pickTo os ss k).map (Value.int .i64)) ∧ Below w.heap.size w wr) (fun _ i _ => ss.length - (intOf i).toNat)
      case atStart => exact ⟨0, Nat.zero_le _, rfl, ⟨rfl, .inl ⟨rfl, rfl⟩⟩, Below.refl _ _⟩
      case round =>
        obtain ⟨k, hk, rfl, hown, hB⟩ := hrel
        by_cases hlt : k < ss.length
        · rcases (HO.out.below hB).at_ with e | ⟨b1, off, rfl, hc⟩
          · rw [e] at h8; simp at h8
          rcases (HSs.out.below hB).at_ with e | ⟨bs, so, rfl, hcs⟩
          · rw [e] at hlt; simp at hlt
          have c1 := hcs k hlt
          have hat := (HAt.out k hlt).1
          have HT := hid (show pickTo os ss (k + 1) = pickTo os ss k ++ [os[(ss[k]?.getD 0).toNat]?.getD 0] from rfl)
          unfold at0 at hat
          clear hcs
          generalize ss[k]?.getD 0 = s at *
          obtain ⟨q, rfl⟩ := Int.eq_ofNat_of_zero_le hat.1
          have c0 := hc q (by omega)
          rw [Int.toNat_natCast] at HT
          clear hc
          generalize os[q]?.getD 0 = x at *
          have hk1 : (k : Int) < (ss.length : Int) := by omega
          have hk0 : (0 : Int) ≤ (k : Int) := by omega
          have hq0 : (0 : Int) ≤ (q : Int) := by omega
          have hq1 : (q : Int) < (os.length : Int) := hat.2
          go_wp2_with (at_builtin; refine wpList_append_own _ rfl _ _ 22 rfl w.heap.size 3 i0 (.int .i64 0) 1 8 Try.underlying22 hi hz0 hz1 hz2 rfl (by decide) _ _ _ rfl (hown.alloc _) ⟨wr.heap.size, 0, none⟩ 1 1 [.int .i64 x] rfl rfl (cell_one_new _ _ _) (by simp [Value.oneCell']) (by unfold maxLen; omega) (by omega) (by have := hB.size; simp; omega) ?_)
          intro v' w4 hown2 hgrow _
          have p4 := (hB.alloc hB.size _).grown hgrow (by have := hB.size; simp; omega) (fun q hq => by have := (hown.lt q hq).1; omega)
          clear hgrow hown
          go_wp2
          go_roundw
          case rel => exact ⟨k + 1, by omega, by go_num, by rw [HT.out]; simpa using hown2, p4⟩
          case measure => simp [intOf]; omega
        · obtain rfl : k = ss.length := by omega
          have hOw : Own wr w.heap.size u11 (pickL os ss) := by unfold Own; rw [pickL_len]; exact hown
          obtain ⟨A, c, hv, hI⟩ := hOw.ints (by rw [pickL_len]; omega) (fun x hx => by have := HPv.out.1 x hx; omega)
          rw [pickL_len] at hv
          subst hv
          clear hown hOw
          go_wp2_with fail
          refine (HGv.out _ _ _ hI).mono ?_
          rintro e w1 ⟨z1, A1, a1, A2, a2, rfl, o1, o2⟩
          go_wp2
          go_ret2
          exact ⟨hB.trans (z1.mono hB.size), A2, a2, by rw [HD.out]; rfl, by rw [HD.out]; exact own_weak o2 hB.size⟩
end Go.Proofs.Ytnjaacmcdkiilaa
