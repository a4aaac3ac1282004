/- The law ShareSome: its walk. -/
import Derived.Test.YtegeojlmpjepjaaShSomR
import Derived.Test.YtegeojlmpjepjaaShSmall
set_option linter.unusedVariables false
namespace Go.Proofs.Ytegeojlmpjepjaa
open Go.RowKit

theorem smE_ok {os ss : List Int} {n kind : Int} (h : smE os ss n kind = true) : ∃ m : Nat, n = (m : Int) ∧ m ≤ 1000 ∧ okO os = true ∧ okK kind = true ∧ someB ss os.length = true ∧ divE os n kind = true ∧ divL os n kind = (giveL kind os m).2 := by
  simp only [smE, Bool.and_eq_true] at h
  obtain ⟨g1, g2, m, rfl, hm⟩ := divE_ok h.1
  exact ⟨m, rfl, hm, g1, g2, h.2, h.1, by rw [divL, if_pos h.1, Int.toNat_natCast]⟩
theorem smE_part {os ss : List Int} {kind : Int} (m : Nat) (hm : m ≤ 1000) (h1 : okO os = true) (h2 : okK kind = true) (h3 : someB ss os.length = true) : smE os ss (m : Int) kind = true ∧ smL os ss (m : Int) kind = (giveL kind (pickL os ss) m).2 := by
  have hd : divE os (m : Int) kind = true := by
    simp only [divE, Bool.and_eq_true]
    exact ⟨⟨h1, by simp [inW]; omega⟩, h2⟩
  have hE : smE os ss (m : Int) kind = true := by rw [smE, hd, h3]; rfl
  exact ⟨hE, by rw [smL, hE, if_pos rfl, Int.toNat_natCast]⟩

set_option maxRecDepth 100000 in
set_option maxHeartbeats 8000000 in
theorem some_ok (oa sa : Option Addr) (os ss : List Int) (oc sc n : Nat) (K : Int) (w : World) (ho : Ints w oa os) (hs : Ints w sa ss) (hl : longI os = false) (hl2 : longI ss = false) (hm : n ≤ 1000) (g1 : okO os = true) (g2 : okK K = true) (g3 : someB ss os.length = true) :
  Calls Try.prog 13 #[.slice oa os.length oc, .slice sa ss.length sc, .agg #[.int .i64 (n : Int), .int .i64 K]] w (BoolR w true) := by
  have hB0 := (Below.refl w.heap.size w).alloc (Nat.le_refl _) (.cells #[.int .i64 (n : Int), .int .i64 K] 24)
  obtain ⟨i0, hi, hz0, hz1, hz2⟩ := info_parts int_info
  have HL := hid (fun w => long4_any oa os oc w (by have := ho.len; omega))
  have HL2 := hid (fun w => long4_any sa ss sc w (by have := hs.len; omega))
  rw [hl] at HL
  rw [hl2] at HL2
  have hl60 : ss.length ≤ 60 := by simpa [longI] using hl2
  obtain ⟨eE, eL⟩ := smE_part (ss := ss) n hm g1 g2 g3
  obtain ⟨sv, sl8⟩ := smL_vals os ss (n : Int) K
  have hdE : divE os (n : Int) K = true := by rw [smE, Bool.and_eq_true] at eE; exact eE.1
  have hdL : divL os (n : Int) K = (giveL K os n).2 := by rw [divL, if_pos hdE, Int.toNat_natCast]
  have HSm := hid (fun (w' : World) (hb : Below w.heap.size w w') => some_any oa sa os ss oc sc (n : Int) K w' (ho.below hb) (hs.below hb) (by omega))
  have HSr := hid (fun (w' : World) (hb : Below w.heap.size w w') => rsome_any oa sa os ss oc sc (n : Int) K w' (ho.below hb) (hs.below hb) (by omega))
  rw [eE] at HSm HSr
  have HDv := hid (fun (w' : World) (hb : Below w.heap.size w w') => divide_any oa os oc (n : Int) K w' (ho.below hb))
  rw [hdE, hdL] at HDv
  obtain ⟨m, hsum, hm1, hgv⟩ := give_pick (kind := K) g1 g3 n hm
  obtain ⟨fE, fL⟩ := smE_part (ss := ss) m hm1 g1 g2 g3
  rw [hgv] at fL
  have HSp := hid (fun (w' : World) (hb : Below w.heap.size w w') => some_any oa sa os ss oc sc (m : Int) K w' (ho.below hb) (hs.below hb) (by omega))
  rw [fE, fL] at HSp
  have av := giveL_vals K os n hm
  have al := giveL_len2 K os n
  obtain ⟨s1, s2⟩ := someB_iff.1 g3
  have HAt := hid s2
  have hslen := some_len s2
  have h8 := (okO_len g1).2.1
  have hpl := pickL_len (giveL K os n).2 ss
  have hpv : ∀ x ∈ pickL (giveL K os n).2 ss, 0 ≤ x ∧ x ≤ 1000 := by rw [← fL]; exact (smL_vals os ss (m : Int) K).1
  have HSs := hid hs
  simp only [show err true = 0 from rfl] at HSm HSr HDv HSp
  generalize smL os ss (n : Int) K = sl at *
  generalize (giveL K os n).2 = ds at *
  have hd1 : ds.length ≤ os.length := by omega
  have hd2 : os.length ≤ ds.length := by omega
  have hde : ((ds.length : Int) == (os.length : Int)) = true := by simp; omega
  have HPl := hid hpl
  have HSv := hid sv
  have HAv := hid av
  have HPv := hid hpv
  have HSu := hid hsum
  have c0 : (w.alloc (.cells #[.int .i64 (n : Int), .int .i64 K] 24)).cell? ⟨w.heap.size, 0, none⟩ = some (.int .i64 (n : Int)) := by go_simp
  have c1 : (w.alloc (.cells #[.int .i64 (n : Int), .int .i64 K] 24)).cell? ⟨w.heap.size, 1, none⟩ = some (.int .i64 K) := by go_simp
  clear hl hl2 eE eL hdE hdL hgv fE fL al s2 hpl hpv sv av hsum g1 g2 g3 ho hs
  go_enter Try.func13, Try.ntmps13
  go_wp2_with fail
  refine (HL.out _).mono ?_
  rintro e w' ⟨rfl, rfl⟩
  go_wp2_with fail
  refine (HL2.out _).mono ?_
  rintro e w' ⟨rfl, rfl⟩
  go_wp2_with fail
  refine (HSm.out _ hB0).mono ?_
  rintro e w1 ⟨q1, A1, a1, rfl, o1⟩
  have p1 := hB0.trans (q1.mono (by simp))
  rw [← q1.cell (by simp)] at c0 c1
  obtain ⟨_, _, hv, i1⟩ := o1.ints (by omega) (small_i64 HSv.out (by omega) (by omega))
  cases hv
  clear o1 q1
  go_wp2_with fail
  refine (HSr.out _ p1).mono ?_
  rintro e w2 ⟨q2, A2, a2, rfl, o2⟩
  have p2 := p1.trans (q2.mono p1.size)
  rw [← q2.cell (cell_lt c0)] at c0
  rw [← q2.cell (cell_lt c1)] at c1
  have i1 := i1.below q2
  obtain ⟨_, _, hv, i2⟩ := o2.ints (by omega) (small_i64 HSv.out (by omega) (by omega))
  cases hv
  clear o2 q2
  go_wp2_with fail
  refine (same_self _ _ _ _ _ _ i1 i2).mono ?_
  rintro e w3 ⟨q3, rfl⟩
  have p3 := p2.trans (q3.mono p2.size)
  rw [← q3.cell (cell_lt c0)] at c0
  rw [← q3.cell (cell_lt c1)] at c1
  clear i1 i2 q3 p1 p2
  go_wp2_with fail
  refine (HDv.out _ p3).mono ?_
  rintro e w4 ⟨q4, A4, a4, rfl, o4⟩
  have p4 := p3.trans (q4.mono p3.size)
  rw [← q4.cell (cell_lt c1)] at c1
  obtain ⟨_, _, hv, i4⟩ := o4.ints (by omega) (small_i64 HAv.out (by omega) (by omega))
  cases hv
  clear o4 q4 p3 c0
  have HC1 := hid c1
  have HI4 := hid i4
  have hwl := cell_lt c1
  simp only at hwl
  clear c1 i4
  go_wp2
  go_loopw [13, 14] (fun v i wr => ∃ k : Nat, k ≤ ss.length ∧ i = .int .i64 (k : Int) ∧ wr.ownsRow w4.heap.size 3 1 v k ((pickTo ds ss k).map (Value.int .i64)) ∧ Below w4.heap.size w4 wr) (fun _ i _ => ss.length - (intOf i).toNat)
  case atStart => exact ⟨0, Nat.zero_le _, rfl, ⟨rfl, .inl ⟨rfl, rfl⟩⟩, Below.refl _ _⟩
  case round =>
    obtain ⟨k, hk, rfl, hown, hB⟩ := hrel
    by_cases hlt : k < ss.length
    · rcases (HI4.out.below hB).at_ with e | ⟨b1, off, rfl, hc⟩
      · rw [e, List.length_nil] at hd2; omega
      rcases (HSs.out.below (p4.trans (hB.mono p4.size))).at_ with e | ⟨bs, so, rfl, hcs⟩
      · rw [e] at hlt; simp at hlt
      have c1 := hcs k hlt
      have hat := (HAt.out k hlt).1
      have HT := hid (show pickTo ds ss (k + 1) = pickTo ds ss k ++ [ds[(ss[k]?.getD 0).toNat]?.getD 0] from rfl)
      unfold at0 at hat
      clear hcs
      generalize ss[k]?.getD 0 = s at *
      obtain ⟨q, rfl⟩ := Int.eq_ofNat_of_zero_le hat.1
      have c0 := hc q (by omega)
      rw [Int.toNat_natCast] at HT
      clear hc
      generalize ds[q]?.getD 0 = x at *
      have hk1 : (k : Int) < (ss.length : Int) := by omega
      have hk0 : (0 : Int) ≤ (k : Int) := by omega
      have hq0 : (0 : Int) ≤ (q : Int) := by omega
      have hq1 : (q : Int) < (ds.length : Int) := by omega
      go_wp2_with (at_builtin; refine wpList_append_own _ rfl _ _ 22 rfl w4.heap.size 3 i0 (.int .i64 0) 1 8 Try.underlying22 hi hz0 hz1 hz2 rfl (by decide) _ _ _ rfl (hown.alloc _) ⟨wr.heap.size, 0, none⟩ 1 1 [.int .i64 x] rfl rfl (cell_one_new _ _ _) (by simp [Value.oneCell']) (by unfold maxLen; omega) (by omega) (by have := hB.size; simp; omega) ?_)
      intro v' w5 hown2 hgrow _
      have p5 := (hB.alloc hB.size _).grown hgrow (by have := hB.size; simp; omega) (fun q hq => by have := (hown.lt q hq).1; omega)
      clear hgrow hown
      go_wp2
      go_roundw
      case rel => exact ⟨k + 1, by omega, by go_num, by rw [HT.out]; simpa using hown2, p5⟩
      case measure => simp [intOf]; omega
    · obtain rfl : k = ss.length := by omega
      have hOw : Own wr w4.heap.size u13 (pickL ds ss) := by unfold Own; rw [HPl.out]; exact hown
      have HC2 : wr.cell? ⟨w.heap.size, 1, none⟩ = some (.int .i64 K) := by rw [hB.cell hwl]; exact HC1.out
      have p5 := p4.trans (hB.mono p4.size)
      obtain ⟨A, c, hv, hI⟩ := hOw.ints (by rw [HPl.out]; omega) (small_i64 HPv.out (by omega) (by omega))
      subst hv
      have HTo := hid (fun (w' : World) (hb : Below wr.heap.size wr w') => total_any A (pickL ds ss) c w' (hI.below hb) (fun x hx => by have := HPv.out x hx; omega) (by rw [HPl.out]; omega))
      rw [HSu.out] at HTo
      have HSp2 := hid (fun (w' : World) (hb : Below wr.heap.size wr w') => HSp.out w' (p5.trans (hb.mono p5.size)))
      have S0 := hid (show OneS wr w.heap.size 1 (.int .i64 K) wr from ⟨HC2, Below.refl _ _⟩)
      have HI := hid hI
      clear hown hOw hI HC2
      generalize pickL ds ss = pt at *
      have hptl : pt.length ≤ 60 := by have := HPl.out; omega
      go_wp2
      go_region_held3 (fun w' => w'.cell? ⟨w.heap.size, 1, none⟩ = some (.int .i64 K) ∧ Below wr.heap.size wr w') (first | assumption | exact S0.out.drew | exact S0.out | exact OneS.keep (by assumption) (by assumption))
        (first | (go_at_call 24; refine (HTo.out _ ?_).mono ?_; (first | exact OneS.below (by assumption) | exact S0.out.drew.below); rintro en x1 ⟨rfl, rfl⟩) | (go_at_call 43; refine (HSp2.out _ ?_).mono ?_; (first | exact OneS.below (by assumption) | exact S0.out.drew.below); rintro en x6 ⟨y6, A6, a6, rfl, o6⟩))
      have hHeld : OneS wr w.heap.size 1 (.int .i64 K) x6 := by assumption
      have hBl := hHeld.below
      have p6 := p5.trans (hBl.mono p5.size)
      obtain ⟨_, _, hv, i6⟩ := o6.ints (by omega) (small_i64 HPv.out (by omega) (by omega))
      cases hv
      have i7 := HI.out.below hBl
      clear hHeld S0 HTo HSp2 y6 o6 hBl p5
      go_wp2_with fail
      refine (same_self _ _ _ _ _ _ i6 i7).mono ?_
      rintro e w7 ⟨q7, rfl⟩
      have p7 := p6.trans (q7.mono p6.size)
      go_wp2_with fail
      refine (known4_any _).mono ?_
      rintro e w8 ⟨q8, rfl⟩
      go_wp2
      go_ret
      exact ⟨p7.trans (q8.mono p7.size), rfl⟩

set_option maxRecDepth 100000 in
set_option maxHeartbeats 8000000 in
theorem some_err (oa sa : Option Addr) (os ss : List Int) (oc sc : Nat) (N K : Int) (w : World) (ho : Ints w oa os) (hs : Ints w sa ss) (hl : longI os = false) (hl2 : longI ss = false) (hE : smE os ss N K = false) :
  Calls Try.prog 13 #[.slice oa os.length oc, .slice sa ss.length sc, .agg #[.int .i64 N, .int .i64 K]] w (BoolR w true) := by
  have hB0 := (Below.refl w.heap.size w).alloc (Nat.le_refl _) (.cells #[.int .i64 N, .int .i64 K] 24)
  have HL := hid (fun w => long4_any oa os oc w (by have := ho.len; omega))
  have HL2 := hid (fun w => long4_any sa ss sc w (by have := hs.len; omega))
  rw [hl] at HL
  rw [hl2] at HL2
  have hl60 : ss.length ≤ 60 := by simpa [longI] using hl2
  obtain ⟨sv, sl8⟩ := smL_vals os ss N K
  have HSm := hid (fun (w' : World) (hb : Below w.heap.size w w') => some_any oa sa os ss oc sc N K w' (ho.below hb) (hs.below hb) (by omega))
  have HSr := hid (fun (w' : World) (hb : Below w.heap.size w w') => rsome_any oa sa os ss oc sc N K w' (ho.below hb) (hs.below hb) (by omega))
  have hne : (err (smE os ss N K) != 0) = true := by rw [hE]; rfl
  have hee : (err (smE os ss N K) != err (smE os ss N K)) = false := by simp
  generalize err (smE os ss N K) = er at *
  generalize smL os ss N K = sl at *
  have HSv := hid sv
  have c0 : (w.alloc (.cells #[.int .i64 N, .int .i64 K] 24)).cell? ⟨w.heap.size, 0, none⟩ = some (.int .i64 N) := by go_simp
  have c1 : (w.alloc (.cells #[.int .i64 N, .int .i64 K] 24)).cell? ⟨w.heap.size, 1, none⟩ = some (.int .i64 K) := by go_simp
  clear hl hl2 sv ho hs hE
  go_enter Try.func13, Try.ntmps13
  go_wp2_with fail
  refine (HL.out _).mono ?_
  rintro e w' ⟨rfl, rfl⟩
  go_wp2_with fail
  refine (HL2.out _).mono ?_
  rintro e w' ⟨rfl, rfl⟩
  go_wp2_with fail
  refine (HSm.out _ hB0).mono ?_
  rintro e w1 ⟨q1, A1, a1, rfl, o1⟩
  have p1 := hB0.trans (q1.mono (by simp))
  rw [← q1.cell (by simp)] at c0 c1
  obtain ⟨_, _, hv, i1⟩ := o1.ints (by omega) (small_i64 HSv.out (by omega) (by omega))
  cases hv
  clear o1 q1
  go_wp2_with fail
  refine (HSr.out _ p1).mono ?_
  rintro e w2 ⟨q2, A2, a2, rfl, o2⟩
  have p2 := p1.trans (q2.mono p1.size)
  have i1 := i1.below q2
  obtain ⟨_, _, hv, i2⟩ := o2.ints (by omega) (small_i64 HSv.out (by omega) (by omega))
  cases hv
  clear o2 q2 c0 c1
  go_wp2_with fail
  refine (same_self _ _ _ _ _ _ i1 i2).mono ?_
  rintro e w3 ⟨q3, rfl⟩
  have p3 := p2.trans (q3.mono p2.size)
  clear i1 i2 q3 p1 p2
  go_wp2_with fail
  refine (known4_any _).mono ?_
  rintro e w8 ⟨q8, rfl⟩
  go_wp2
  go_ret
  exact ⟨p3.trans (q8.mono p3.size), rfl⟩

set_option maxRecDepth 100000 in
set_option maxHeartbeats 4000000 in
theorem shareSome_walk (oa : Option Addr) (os : List Int) (oc : Nat) (sa : Option Addr) (ss : List Int) (sc : Nat) (N K : Int) (w : World) (h1 : os.length ≤ 9223372036854775807) (h2 : ss.length ≤ 9223372036854775807) (hT : os.length ≤ 140737488355328 → Ints w oa os) (hU : ss.length ≤ 140737488355328 → Ints w sa ss) :
  Calls Try.prog 13 #[.slice oa os.length oc, .slice sa ss.length sc, .agg #[.int .i64 N, .int .i64 K]] w (BoolR w true) := by
  have hB0 := (Below.refl w.heap.size w).alloc (Nat.le_refl _) (.cells #[.int .i64 N, .int .i64 K] 24)
  have HL := hid (fun w => long4_any oa os oc w h1)
  have HL2 := hid (fun w => long4_any sa ss sc w h2)
  cases hl : longI os with
  | true =>
    rw [hl] at HL
    clear hl hT hU
    go_enter Try.func13, Try.ntmps13
    go_wp2_with fail
    refine (HL.out _).mono ?_
    rintro e w' ⟨rfl, rfl⟩
    go_wp2_with fail
    refine (known4_any _).mono ?_
    rintro e w2 ⟨q2, rfl⟩
    go_wp2
    go_ret
    exact ⟨hB0.trans (q2.mono (by simp)), rfl⟩
  | false =>
    have hl60 : os.length ≤ 60 := by simpa [longI] using hl
    have ho := hT (by omega)
    cases hl2 : longI ss with
    | true =>
      rw [hl] at HL
      rw [hl2] at HL2
      clear hl2 hU ho hl hT
      go_enter Try.func13, Try.ntmps13
      go_wp2_with fail
      refine (HL.out _).mono ?_
      rintro e w' ⟨rfl, rfl⟩
      go_wp2_with fail
      refine (HL2.out _).mono ?_
      rintro e w' ⟨rfl, rfl⟩
      go_wp2_with fail
      refine (known4_any _).mono ?_
      rintro e w2 ⟨q2, rfl⟩
      go_wp2
      go_ret
      exact ⟨hB0.trans (q2.mono (by simp)), rfl⟩
    | false =>
      have hm60 : ss.length ≤ 60 := by simpa [longI] using hl2
      have hs := hU (by omega)
      cases hE : smE os ss N K with
      | false => exact some_err oa sa os ss oc sc N K w ho hs hl hl2 hE
      | true =>
        obtain ⟨n, rfl, hn, g1, g2, g3, _, _⟩ := smE_ok hE
        exact some_ok oa sa os ss oc sc n K w ho hs hl hl2 hn g1 g2 g3
end Go.Proofs.Ytegeojlmpjepjaa
