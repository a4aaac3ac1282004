/- The document's own Some. -/
import Derived.Test.YtegeojlmpjepjaaShSome
set_option linter.unusedVariables false
namespace Go.Proofs.Ytegeojlmpjepjaa
open Go.RowKit

set_option maxRecDepth 100000 in
set_option maxHeartbeats 8000000 in
theorem rsome_any (oa sa : Option Addr) (os ss : List Int) (oc sc : Nat) (n kind : Int) (w : World) (ho : Ints w oa os) (hs : Ints w sa ss) (hl : ss.length ≤ 1000000) :
  Calls Try.prog 44 #[.slice oa os.length oc, .slice sa ss.length sc, .int .i64 n, .int .i64 kind] w (ListE w (smL os ss n kind) (err (smE os ss n kind))) := by
  have HV := hid (ask_any oa os oc n kind w ho)
  cases hd : divE os n kind with
  | false =>
    have hE : smE os ss n kind = false := by rw [smE, hd]; rfl
    have HD := hid (show smL os ss n kind = [] by rw [smL, hE]; rfl)
    rw [hE]
    rw [hd] at HV
    clear hd ho hs hE
    go_enter Try.func44, Try.ntmps44
    go_wp2_with fail
    refine HV.out.mono ?_
    rintro e w' ⟨rfl, rfl⟩
    rw [show err false = 1 from rfl]
    go_wp2
    go_ret2
    exact ⟨Below.refl _ _, none, 0, by rw [HD.out]; rfl, by rw [HD.out]; exact Own.nil _ _⟩
  | true =>
    obtain ⟨g1, g2, m, rfl, hm⟩ := divE_ok hd
    have h8 := okO_len g1
    have hl8 := h8.2.1
    obtain ⟨i0, hi, hz0, hz1, hz2⟩ := info_parts int_info
    have HSb := hid (someB_iff (ss := ss) (n := os.length))
    have HErr := hid (show someB ss os.length = false → smE os ss (m : Int) kind = false ∧ smL os ss (m : Int) kind = [] from fun h => by
      have hE : smE os ss (m : Int) kind = false := by rw [smE, hd, h]; rfl
      exact ⟨hE, by rw [smL, hE]; rfl⟩)
    have HGood := hid (show someB ss os.length = true → smE os ss (m : Int) kind = true ∧ smL os ss (m : Int) kind = divL (pickL os ss) (m : Int) kind ∧ divE (pickL os ss) (m : Int) kind = true from fun h => by
      have hE : smE os ss (m : Int) kind = true := by rw [smE, hd, h]; rfl
      have hdp : divE (pickL os ss) (m : Int) kind = true := by
        have := pick_okO g1 h
        simp only [divE, Bool.and_eq_true] at hd ⊢
        exact ⟨⟨this, hd.1.2⟩, hd.2⟩
      exact ⟨hE, by rw [smL, hE, if_pos rfl, divL, hdp, if_pos rfl], hdp⟩)
    have HDv := hid (fun (A : Option Addr) (c : Nat) (w' : World) (hi : Ints w' A (pickL os ss)) => rdivide_any A (pickL os ss) c (m : Int) kind w' hi)
    rw [pickL_len] at HDv
    have HOv := hid (okO_vals g1).1
    have HO := hid ho
    have HSs := hid hs
    rw [hd] at HV
    clear hd ho hs g1 g2
    generalize smE os ss (m : Int) kind = er at *
    generalize smL os ss (m : Int) kind = sl at *
    go_enter Try.func44, Try.ntmps44
    go_wp2_with fail
    refine HV.out.mono ?_
    rintro e w' ⟨rfl, rfl⟩
    rw [show err true = 0 from rfl]
    go_wp2
    go_loopw [11, 12] (fun v i wr => ∃ k : Nat, k ≤ ss.length ∧ i = .int .i64 (k : Int) ∧ Hid (∀ i, i < k → OkAt ss os.length i) ∧ wr.ownsRow w.heap.size 3 1 v k ((pickTo os ss k).map (Value.int .i64)) ∧ Below w.heap.size w wr) (fun _ i _ => ss.length - (intOf i).toNat)
    case atStart => exact ⟨0, Nat.zero_le _, rfl, fun i hi => by omega, ⟨rfl, .inl ⟨rfl, rfl⟩⟩, Below.refl _ _⟩
    case round =>
      obtain ⟨k, hk, rfl, HP, hown, hB⟩ := hrel
      by_cases hlt : k < ss.length
      · rcases (HO.out.below hB).at_ with e | ⟨b1, off, rfl, hc⟩
        · rw [e] at h8; simp at h8
        rcases (HSs.out.below hB).at_ with e | ⟨bs, so, rfl, hcs⟩
        · rw [e] at hlt; simp at hlt
        have c1 := hcs k hlt
        have hk1 : (k : Int) < (ss.length : Int) := by omega
        have hk0 : (0 : Int) ≤ (k : Int) := by omega
        have HF := hid (show ¬ OkAt ss os.length k → er = false ∧ sl = [] from fun h => HErr.out (by
          rw [Bool.eq_false_iff]
          exact fun g => h ((HSb.out.1 g).2 k hlt)))
        have HN := hid (show OkAt ss os.length k → ∀ i, i < k + 1 → OkAt ss os.length i from fun h i hi => by
          by_cases e : i = k
          · subst e; exact h
          · exact HP.out i (by omega))
        have HT := hid (show pickTo os ss (k + 1) = pickTo os ss k ++ [os[(ss[k]?.getD 0).toNat]?.getD 0] from rfl)
        have HOa := hid (show OkAt ss os.length k ↔ (0 ≤ ss[k]?.getD 0 ∧ ss[k]?.getD 0 < (os.length : Int)) ∧ (0 < k → ss[k - 1]?.getD 0 < ss[k]?.getD 0) from Iff.rfl)
        by_cases t1 : ss[k]?.getD 0 < 0
        · have HX := hid (HF.out (fun h => by have := (HOa.out.1 h).1.1; omega))
          clear HF HN HOa HT hcs hc
          generalize ss[k]?.getD 0 = s at *
          go_wp2
          go_quiet (fail)
          have q := below_dn hB nq
          go_wp2
          go_ret2
          exact ⟨q, none, 0, by rw [HX.out.1, HX.out.2]; rfl, by rw [HX.out.2]; exact Own.nil _ _⟩
        · have t1d : decide (ss[k]?.getD 0 < 0) = false := decide_eq_false t1
          by_cases t2 : (os.length : Int) ≤ ss[k]?.getD 0
          · have HX := hid (HF.out (fun h => by have := (HOa.out.1 h).1.2; omega))
            have t1' : 0 ≤ ss[k]?.getD 0 := by omega
            clear HF HN HOa HT hcs hc t1
            generalize ss[k]?.getD 0 = s at *
            go_wp2
            go_quiet (fail)
            have q := below_dn hB nq
            go_wp2
            go_ret2
            exact ⟨q, none, 0, by rw [HX.out.1, HX.out.2]; rfl, by rw [HX.out.2]; exact Own.nil _ _⟩
          · have t2d : decide ((os.length : Int) ≤ ss[k]?.getD 0) = false := decide_eq_false t2
            have t1' : 0 ≤ ss[k]?.getD 0 := by omega
            have t2' : ss[k]?.getD 0 < (os.length : Int) := by omega
            by_cases hz : k = 0
            · subst hz
              have HX := hid (HN.out (HOa.out.2 ⟨⟨t1', t2'⟩, fun h => by omega⟩))
              rw [Nat.add_zero] at c1
              have HHc := hid hc
              clear HF HN HOa hcs t1 t2 hc
              generalize ss[0]?.getD 0 = s at *
              go_wp2
              go_quiet (fail)
              have q1 := below_dn hB nq
              obtain ⟨q, rfl⟩ := Int.eq_ofNat_of_zero_le t1'
              rw [Int.toNat_natCast] at HT
              have hqo : q < os.length := by omega
              have c0' : (wr.drewN nq).cell? ⟨b1, off + q, none⟩ = some (.int .i64 (os[q]?.getD 0)) := HHc.out q hqo
              have c1' : (wr.drewN nq).cell? ⟨bs, so, none⟩ = some (.int .i64 (q : Int)) := c1
              generalize os[q]?.getD 0 = x at *
              have hq0 : (0 : Int) ≤ (q : Int) := by omega
              have hown' : (wr.drewN nq).ownsRow w.heap.size 3 1 u11 0 ((pickTo os ss 0).map (Value.int .i64)) := hown
              clear c1 hown hB t1d t2d
              generalize wr.drewN nq = wd at *
              go_wp2_with (at_builtin; refine wpList_append_own _ rfl _ _ 22 rfl w.heap.size 3 i0 (.int .i64 0) 1 8 Try.underlying22 hi hz0 hz1 hz2 rfl (by decide) _ _ _ rfl (hown'.alloc _) ⟨wd.heap.size, 0, none⟩ 1 1 [.int .i64 x] rfl rfl (cell_one_new _ _ _) (by simp [Value.oneCell']) (by unfold maxLen; omega) (by omega) (by have := q1.size; simp; omega) ?_)
              intro v' w4 hown2 hgrow _
              have p4 := (q1.alloc q1.size _).grown hgrow (by have := q1.size; simp; omega) (fun q hq => by have := (hown'.lt q hq).1; omega)
              clear hgrow hown'
              go_wp2
              go_roundw
              case rel => exact ⟨1, by omega, by go_num, HX.out, by rw [HT.out]; simpa using hown2, p4⟩
              case measure => simp [intOf]; omega
            · obtain ⟨j, rfl⟩ : ∃ j, k = j + 1 := ⟨k - 1, by omega⟩
              have c2 := hcs j (by omega)
              rw [Nat.add_sub_cancel] at HOa
              have hkp : (0 : Int) < ((j + 1 : Nat) : Int) := by omega
              have hwj : IntKind.i64.wrap (((j + 1 : Nat) : Int) - 1) = (j : Int) := by rw [IntWalk.i64_in _ (by omega)]; omega
              have hj0 : (0 : Int) ≤ (j : Int) := by omega
              have hj1 : (j : Int) < (ss.length : Int) := by omega
              clear hcs
              by_cases t3 : ss[j + 1]?.getD 0 ≤ ss[j]?.getD 0
              · have HX := hid (HF.out (fun h => by have := (HOa.out.1 h).2 (by omega); omega))
                clear HF HN HOa HT hc t1 t2
                generalize ss[j + 1]?.getD 0 = s at *
                generalize ss[j]?.getD 0 = y at *
                go_wp2
                go_quiet (fail)
                have q := below_dn hB nq
                go_wp2
                go_ret2
                exact ⟨q, none, 0, by rw [HX.out.1, HX.out.2]; rfl, by rw [HX.out.2]; exact Own.nil _ _⟩
              · have HX := hid (HN.out (HOa.out.2 ⟨⟨t1', t2'⟩, fun _ => by omega⟩))
                have t3d : decide (ss[j + 1]?.getD 0 ≤ ss[j]?.getD 0) = false := decide_eq_false t3
                have t3' : ss[j]?.getD 0 < ss[j + 1]?.getD 0 := by omega
                have HHc := hid hc
                clear HF HN HOa t1 t2 t3 hc
                generalize ss[j + 1]?.getD 0 = s at *
                generalize ss[j]?.getD 0 = y at *
                go_wp2
                go_quiet (fail)
                have q1 := below_dn hB nq
                obtain ⟨q, rfl⟩ := Int.eq_ofNat_of_zero_le t1'
                rw [Int.toNat_natCast] at HT
                have hqo : q < os.length := by omega
                have c0' : (wr.drewN nq).cell? ⟨b1, off + q, none⟩ = some (.int .i64 (os[q]?.getD 0)) := HHc.out q hqo
                have c1' : (wr.drewN nq).cell? ⟨bs, so + (j + 1), none⟩ = some (.int .i64 (q : Int)) := c1
                generalize os[q]?.getD 0 = x at *
                have hq0 : (0 : Int) ≤ (q : Int) := by omega
                have hown' : (wr.drewN nq).ownsRow w.heap.size 3 1 u11 (j + 1) ((pickTo os ss (j + 1)).map (Value.int .i64)) := hown
                clear c1 c2 hown hB hwj t1d t2d t3d
                generalize wr.drewN nq = wd at *
                go_wp2_with (at_builtin; refine wpList_append_own _ rfl _ _ 22 rfl w.heap.size 3 i0 (.int .i64 0) 1 8 Try.underlying22 hi hz0 hz1 hz2 rfl (by decide) _ _ _ rfl (hown'.alloc _) ⟨wd.heap.size, 0, none⟩ 1 1 [.int .i64 x] rfl rfl (cell_one_new _ _ _) (by simp [Value.oneCell']) (by unfold maxLen; omega) (by omega) (by have := q1.size; simp; omega) ?_)
                intro v' w4 hown2 hgrow _
                have p4 := (q1.alloc q1.size _).grown hgrow (by have := q1.size; simp; omega) (fun q hq => by have := (hown'.lt q hq).1; omega)
                clear hgrow hown'
                go_wp2
                go_roundw
                case rel => exact ⟨j + 1 + 1, by omega, by go_num, HX.out, by rw [HT.out]; simpa using hown2, p4⟩
                case measure => simp [intOf]; omega
      · obtain rfl : k = ss.length := by omega
        have hOw : Own wr w.heap.size u11 (pickL os ss) := by unfold Own; rw [pickL_len]; exact hown
        have hpv : ∀ x ∈ pickL os ss, -9223372036854775808 ≤ x ∧ x ≤ 9223372036854775807 := fun x hx => by
          obtain ⟨k, hk, rfl⟩ := List.mem_iff_getElem.1 hx
          have hk' : k < ss.length := by rw [pickL_len] at hk; exact hk
          have e := pickL_at os ss hk'
          unfold at0 at e
          rw [List.getElem?_eq_getElem hk, Option.getD_some] at e
          have b := (HP.out k hk').1
          have := HOv.out _ (getD_mem os (at0 ss k).toNat (by omega))
          unfold at0 at this
          omega
        obtain ⟨A, c, hv, hI⟩ := hOw.ints (by rw [pickL_len]; omega) hpv
        rw [pickL_len] at hv
        subst hv
        clear hown hOw hpv
        by_cases h0 : ss.length = 0
        · have HX := hid (HErr.out (by
            rw [Bool.eq_false_iff]
            exact fun g => by have := (HSb.out.1 g).1; omega))
          have h0' : ((ss.length : Int) == 0) = true := by simp; exact List.eq_nil_of_length_eq_zero h0
          clear h0
          go_wp2
          go_ret2
          exact ⟨hB, none, 0, by rw [HX.out.1, HX.out.2]; rfl, by rw [HX.out.2]; exact Own.nil _ _⟩
        · obtain ⟨x1, x2, x3⟩ := HGood.out (HSb.out.2 ⟨by omega, HP.out⟩)
          have h0' : ((ss.length : Int) == 0) = false := by rw [beq_eq_false_iff_ne]; omega
          rw [x3] at HDv
          rw [← x2] at HDv
          have HX1 := hid x1
          clear h0 x1 x2 x3
          go_wp2_with fail
          refine (HDv.out _ _ _ hI).mono ?_
          rintro e w1 ⟨z1, A1, a1, rfl, o1⟩
          go_wp2
          go_ret2
          exact ⟨hB.trans (z1.mono hB.size), A1, a1, by rw [HX1.out]; rfl, own_weak o1 hB.size⟩
end Go.Proofs.Ytegeojlmpjepjaa
