/- The document's test of a tour, and its length; both Lengths: chapter 8. -/
import Derived.Test.YtbffdpcogfmomaaVaRV
import Derived.Test.YtbffdpcogfmomaaVaRaise
set_option linter.unusedVariables false
namespace Go.Proofs.Ytbffdpcogfmomaa
open Go.RowKit

theorem not_mem_take {o : List Int} {i : Nat} (hi : i < o.length) (h : ∀ k, k < i → vAt o k ≠ vAt o i) : vAt o i ∉ o.take i := fun hm => by
  obtain ⟨k, hk, he⟩ := mem_vAt hm
  have hki : k < i := by simp at hk; omega
  rw [vAt_take o i k hki] at he
  exact h k hki he
theorem mem_take_of {o : List Int} {i k : Nat} (hi : i < o.length) (hk : k < i) (h : vAt o i = vAt o k) : vAt o i ∈ o.take i := by
  rw [h, ← vAt_take o i k hk]
  exact vAt_mem (by simp; omega)
set_option maxRecDepth 100000 in
set_option maxHeartbeats 4000000 in
theorem rIsTour_any (a A : Option Addr) (t : Tbl) (o : List Int) (cap c : Nat) (w : World) (h : Ints w A o) (hn : t.length ≤ 7) : Calls Try.prog 56 #[.slice a t.length cap, .slice A o.length c] w (IntR w (tourE o t.length)) := by
  have hlen := h.len
  have HH := hid h
  have s1 : IntKind.i64.wrap ((t.length : Int) - 1) = (t.length : Int) - 1 := IntWalk.i64_in _ (by omega)
  clear h
  generalize t.length = n at *
  go_enter Try.func56, Try.ntmps56
  go_wp2
  go_loop [5] (fun i => ∃ (k : Nat), k ≤ o.length ∧ i = .int .i64 k ∧ Hid (∀ i, i < k → 1 ≤ vAt o i ∧ vAt o i < n)) (fun i => o.length - (intOf i).toNat)
  case atStart => exact ⟨0, Nat.zero_le _, rfl, fun i hi => by omega⟩
  case round =>
    obtain ⟨k, hk, rfl, HG⟩ := hrel
    by_cases hlt : k < o.length
    · obtain ⟨b, off, rfl, hc⟩ := HH.out.at' (by omega)
      have c0 := hc k hlt
      rw [show o[k]?.getD 0 = vAt o k from rfl] at c0
      have HBad := hid (fun e => stopsB_bad (n := n) hlt e)
      have HGs := hid (fun (e : zin (vAt o k) 1 ((n : Int) - 1) = true) => show ∀ i, i < k + 1 → 1 ≤ vAt o i ∧ vAt o i < n from fun i hi => by
        rcases Nat.lt_or_ge i k with h | h
        · exact HG.out i h
        · rw [show i = k by omega]; have := of_decide_eq_true e; omega)
      clear hc
      generalize vAt o k = x at *
      have HA := hid (rWithin8_any x 1 ((n : Int) - 1))
      cases hz : zin x 1 ((n : Int) - 1) with
      | false =>
        rw [hz] at HA
        have HN := hid (HBad.out hz)
        clear hz HBad HGs
        go_wp2_with fail
        refine (HA.out _).mono ?_
        rintro e w1 ⟨rfl, rfl⟩
        go_wp2
        go_ret
        exact ⟨Below.refl _ _, ret_int (by rw [HN.out])⟩
      | true =>
        rw [hz] at HA
        have HN := hid (HGs.out hz)
        clear hz HBad HGs
        go_wp2_with fail
        refine (HA.out _).mono ?_
        rintro e w1 ⟨rfl, rfl⟩
        go_wp2
        go_round
        case rel => exact ⟨k + 1, by omega, by go_num, HN⟩
        case measure => simp [intOf]; omega
    · have HSt := hid (show StopsOk o n from fun x hx => by obtain ⟨i, hi, rfl⟩ := mem_vAt hx; exact HG.out i (by omega))
      clear HG
      go_wp2_with fail
      go_loopw [6] (fun i wr => ∃ (k : Nat), k ≤ o.length ∧ i = .int .i64 k ∧ Hid ((o.take k).Nodup) ∧ Hid (Below w.heap.size w wr)) (fun i _ => o.length - (intOf i).toNat)
      case atStart => exact ⟨0, Nat.zero_le _, rfl, by unfold Hid; simp, Below.refl _ _⟩
      case round =>
        obtain ⟨i, hi, rfl, HG, HB⟩ := hrel
        by_cases hlt2 : i < o.length
        · have HTw := hid (fun (k : Nat) (hk : k < i) (e : vAt o i = vAt o k) => tourE_twice HSt.out hlt2 (mem_take_of hlt2 hk e))
          have HNd := hid (fun e => nodup_step hlt2 HG.out (not_mem_take hlt2 e))
          go_wp2_with fail
          go_loopw [7] (fun v wr => ∃ (k : Nat), k ≤ i ∧ v = .int .i64 k ∧ Hid (∀ k', k' < k → vAt o k' ≠ vAt o i) ∧ Hid (Below w.heap.size w wr)) (fun v _ => i - (intOf v).toNat)
          case atStart => exact ⟨0, Nat.zero_le _, rfl, fun k' hk' => by omega, HB⟩
          case round =>
            obtain ⟨k, hk, rfl, HK, HB2⟩ := hrel
            by_cases hlt3 : k < i
            · obtain ⟨b, off, rfl, hc⟩ := (HH.out.below HB2.out).at' (by omega)
              have c1 := hc i hlt2
              have c2 := hc k (by omega)
              rw [show o[i]?.getD 0 = vAt o i from rfl] at c1
              rw [show o[k]?.getD 0 = vAt o k from rfl] at c2
              have HX := hid (fun e => HTw.out k hlt3 e)
              have HY := hid (fun (e : ¬ vAt o i = vAt o k) => show ∀ k', k' < k + 1 → vAt o k' ≠ vAt o i from fun k' hk' => by
                rcases Nat.lt_or_ge k' k with h | h
                · exact HK.out k' h
                · rw [show k' = k by omega]; exact fun e2 => e e2.symm)
              have q1 : (i : Int) < (o.length : Int) := by omega
              have q2 : (k : Int) < (o.length : Int) := by omega
              have q3 : (k : Int) < (i : Int) := by omega
              clear hc
              by_cases he : vAt o i = vAt o k
              · have HZ := hid (HX.out he)
                have hee : (vAt o i == vAt o k) = true := by simp; exact he
                clear HX HY he
                generalize vAt o i = x at *
                generalize vAt o k = y at *
                go_wp2_with fail
                go_quiet (fail)
                go_wp2
                go_ret
                exact ⟨below_drewN HB2.out _, ret_int (by rw [HZ.out])⟩
              · have HZ := hid (HY.out he)
                have hee : (vAt o i == vAt o k) = false := by simp; exact he
                clear HX HY he
                obtain ⟨x, hx⟩ : ∃ x, vAt o i = x := ⟨_, rfl⟩
                obtain ⟨y, hy⟩ : ∃ y, vAt o k = y := ⟨_, rfl⟩
                rw [hx] at c1 hee
                rw [hy] at c2 hee
                clear hx hy
                go_wp2_with fail
                go_quiet (fail)
                go_wp2
                go_roundw
                case rel => exact ⟨k + 1, by omega, by go_num, HZ, below_drewN HB2.out _⟩
                case measure => simp [intOf]; omega
            · have HZ := hid (HNd.out (fun k' hk' => HK.out k' (by omega)))
              go_wp2
              go_roundw
              case rel => exact ⟨i + 1, by omega, by go_num, HZ, HB2⟩
              case measure => simp [intOf]; omega
        · have HN := hid (show tourE o n = 0 from tourE_ok HSt.out (by have := HG.out; rwa [List.take_of_length_le (by omega)] at this))
          go_wp2
          go_ret
          exact ⟨HB.out, ret_int (by rw [HN.out])⟩
set_option maxRecDepth 100000 in
set_option maxHeartbeats 2000000 in
theorem rLen_any (a A : Option Addr) (t : Tbl) (o : List Int) (cap c : Nat) (w : World) (h : TabAt w a t) (hi : Ints w A o) (ht : Ways t) (ho : StopsOk o t.length) (hol : o.length ≤ 100) :
  Calls Try.prog 57 #[.slice a t.length cap, .slice A o.length c] w (IntR w (tourL t o)) := by
  have hpos := ht.pos
  have hl7 := ht.len
  have HTab := hid h
  have HI := hid hi
  have HT := hid ht
  have HO := hid ho
  clear h hi ht ho
  go_enter Try.func57, Try.ntmps57
  go_wp2
  go_loopw [5, 6, 7] (fun s p i wr => ∃ (k : Nat), k ≤ o.length ∧ i = .int .i64 k ∧ s = .int .i64 (preL t o k) ∧ p = .int .i64 (lastP o k) ∧ Hid (Below w.heap.size w wr)) (fun _ _ i _ => o.length - (intOf i).toNat)
  case atStart => exact ⟨0, Nat.zero_le _, rfl, rfl, rfl, Below.refl _ _⟩
  case round =>
    obtain ⟨k, hk, rfl, rfl, rfl, HB⟩ := hrel
    have hp := lastP_in HO.out hpos hk
    have hb := preL_bd HT.out HO.out k hk
    obtain ⟨b, off, rfl, HC⟩ := (HTab.out.below HB.out).sq HT.out.sq hpos
    by_cases hlt : k < o.length
    · obtain ⟨b1, o1, rfl, hc1⟩ := (HI.out.below HB.out).at' (by omega)
      have c0 := hc1 k hlt
      rw [show o[k]?.getD 0 = vAt o k from rfl] at c0
      have HI2 := hid hc1
      have hx := HO.out _ (vAt_mem hlt)
      have HS := hid (show preL t o (k + 1) = preL t o k + tA t (lastP o k) (vAt o k) from rfl)
      have HL := hid (lastP_succ o k)
      have hw := HT.out.bdI _ (vAt o k) hp ⟨by omega, hx.2⟩
      clear hc1
      generalize hsp : preL t o k = s at *
      generalize hlp : lastP o k = p at *
      generalize hvk : vAt o k = x at *
      clear hsp hlp
      have HVK := hid hvk
      clear hvk
      obtain ⟨i, rfl⟩ := Int.eq_ofNat_of_zero_le hp.1
      obtain ⟨j, rfl⟩ := Int.eq_ofNat_of_zero_le (show 0 ≤ x by omega)
      obtain ⟨b2, o2, c2, g1, _, g2⟩ := HC i (by omega)
      have g3 := g2 j (by omega)
      generalize tA t i j = y at *
      clear g2 HC
      have hj : (j : Int) < (t.length : Int) := hx.2
      have hi' : (i : Int) < (t.length : Int) := hp.2
      have hk' : (k : Int) < (o.length : Int) := by omega
      have s1 : IntKind.i64.wrap (s + y) = s + y := IntWalk.i64_in _ (by omega)
      go_wp2_with fail
      go_quiet (fail)
      have d0 : (wr.drewN nq).cell? ⟨b1, o1 + k, none⟩ = some (.int .i64 (j : Int)) := c0
      have HBd := hid (below_drewN HB.out nq)
      generalize wr.drewN nq = wd at *
      clear c0 g1 g3
      go_wp2
      go_roundw
      case rel => exact ⟨k + 1, by omega, by go_num, by rw [HS.out], by rw [HL.out], HBd⟩
      case measure => simp [intOf]; omega
    · obtain rfl : k = o.length := by omega
      have HS := hid (show tourL t o = preL t o o.length + tA t (lastP o o.length) 0 from rfl)
      have hw := HT.out.bdI _ 0 hp ⟨by omega, by omega⟩
      generalize preL t o o.length = s at *
      generalize lastP o o.length = p at *
      obtain ⟨i, rfl⟩ := Int.eq_ofNat_of_zero_le hp.1
      obtain ⟨b2, o2, c2, g1, _, g2⟩ := HC i (by omega)
      have g3 := g2 0 (by omega)
      rw [show tA t (i : Int) ((0 : Nat) : Int) = tA t (i : Int) 0 from rfl, Nat.add_zero] at g3
      generalize tA t i 0 = y at *
      clear g2 HC
      have hi' : (i : Int) < (t.length : Int) := hp.2
      have h0t : (0 : Int) < (t.length : Int) := by omega
      go_wp2
      go_ret
      exact ⟨HB.out, ret_int (by rw [HS.out])⟩
/-- The error of ways and a tour. -/
def lenE (t : Tbl) (o : List Int) : Int := if vaV t = 0 then tourE o t.length else vaV t
def lenV8 (t : Tbl) (o : List Int) : Int := if lenE t o = 0 then tourL t o else 0
theorem tourE_cases (o : List Int) (n : Nat) : tourE o n = 0 ∨ tourE o n = 5 ∨ tourE o n = 6 := by unfold tourE; split <;> (try split) <;> simp
theorem lenE_ok {t : Tbl} {o : List Int} (h : lenE t o = 0) : Ways t ∧ StopsOk o t.length ∧ o.Nodup := by
  unfold lenE at h
  split at h
  · rename_i h1
    obtain ⟨h2, h3⟩ := (tourE_iff o t.length).1 h
    exact ⟨(ways_iff t).1 h1, h2, h3⟩
  · rename_i h1; exact absurd h h1
set_option maxRecDepth 100000 in
set_option maxHeartbeats 4000000 in
theorem vLengthP_any (a A : Option Addr) (t : Tbl) (o : List Int) (cap c : Nat) (w : World) (h : TabAt w a t) (hi : Ints w A o) (hol : o.length ≤ 100) :
  Calls Try.prog 20 #[.slice a t.length cap, .slice A o.length c] w (fun en w' => Below w.heap.size w w' ∧ en = .returned (.tuple #[.int .i64 (lenV8 t o), .int .i64 (lenE t o)])) := by
  have HV := hid (vValidate_any a t cap w h)
  have htl := h.len
  by_cases hv : vaV t = 0
  · have ht := (ways_iff t).1 hv
    have hl7 := ht.len
    rw [hv] at HV
    have HT := hid (fun (W : World) (hb : Below w.heap.size w W) => vCheckTour_any A o c t.length W (hi.below hb) hl7)
    have HE := hid (show lenE t o = tourE o t.length from if_pos hv)
    by_cases he : tourE o t.length = 0
    · obtain ⟨h2, h3⟩ := (tourE_iff o t.length).1 he
      rw [he] at HT
      have HL := hid (fun (W : World) (hb : Below w.heap.size w W) => vLength_any a A t o cap c W (h.below hb) (hi.below hb) ht h2 hol)
      have HE2 := hid (HE.out.trans he)
      have HV8 := hid (show lenV8 t o = tourL t o from if_pos HE2.out)
      clear h hi hv ht he h2 h3 HE
      go_enter Try.func20, Try.ntmps20
      go_wp2_with fail
      refine HV.out.mono ?_
      rintro e w1 ⟨hb1, rfl⟩
      have HB1 := hid hb1
      have HC := hid (HT.out w1 hb1)
      clear hb1
      go_wp2_with fail
      refine HC.out.mono ?_
      rintro e w2 ⟨hb2, rfl⟩
      have HB2 := hid (HB1.out.trans (hb2.mono HB1.out.size))
      have HD := hid (HL.out w2 HB2.out)
      clear hb2 HC
      go_wp2_with fail
      refine HD.out.mono ?_
      rintro e w3 ⟨rfl, rfl⟩
      have HB3 := HB2
      go_wp2
      go_ret2
      exact ⟨HB3.out, by rw [HE2.out, HV8.out]; rfl⟩
    · have hne : (tourE o t.length == 0) = false := by simp; exact he
      have HE2 := hid HE.out
      have HV8 := hid (show lenV8 t o = 0 from if_neg (by rw [HE.out]; exact he))
      generalize tourE o t.length = e1 at *
      clear h hi hv ht HE
      go_enter Try.func20, Try.ntmps20
      go_wp2_with fail
      refine HV.out.mono ?_
      rintro e w1 ⟨hb1, rfl⟩
      have HB1 := hid hb1
      have HC := hid (HT.out w1 hb1)
      clear hb1
      go_wp2_with fail
      refine HC.out.mono ?_
      rintro e w2 ⟨hb2, rfl⟩
      have HB2 := hid (HB1.out.trans (hb2.mono HB1.out.size))
      clear hb2 HC
      go_wp2
      go_ret2
      exact ⟨HB2.out, by rw [HE2.out, HV8.out]; rfl⟩
  · have HE := hid (show lenE t o = vaV t from if_neg hv)
    have HV8 := hid (show lenV8 t o = 0 from if_neg (by rw [HE.out]; exact hv))
    generalize vaV t = e0 at *
    have hne : (e0 == 0) = false := by simp; exact hv
    clear h hi
    go_enter Try.func20, Try.ntmps20
    go_wp2_with fail
    refine HV.out.mono ?_
    rintro e w1 ⟨hb1, rfl⟩
    have HB1 := hid hb1
    clear hb1
    go_wp2
    go_ret2
    exact ⟨HB1.out, by rw [HE.out, HV8.out]; rfl⟩
set_option maxRecDepth 100000 in
set_option maxHeartbeats 4000000 in
theorem rLengthP_any (a A : Option Addr) (t : Tbl) (o : List Int) (cap c : Nat) (w : World) (h : TabAt w a t) (hi : Ints w A o) (hol : o.length ≤ 100) :
  Calls Try.prog 21 #[.slice a t.length cap, .slice A o.length c] w (fun en w' => Below w.heap.size w w' ∧ en = .returned (.tuple #[.int .i64 (lenV8 t o), .int .i64 (lenE t o)])) := by
  have HV := hid (rValidate_any a t cap w h)
  have htl := h.len
  by_cases hv : vaV t = 0
  · have ht := (ways_iff t).1 hv
    have hl7 := ht.len
    rw [hv] at HV
    have HT := hid (fun (W : World) (hb : Below w.heap.size w W) => rIsTour_any a A t o cap c W (hi.below hb) hl7)
    have HE := hid (show lenE t o = tourE o t.length from if_pos hv)
    by_cases he : tourE o t.length = 0
    · obtain ⟨h2, h3⟩ := (tourE_iff o t.length).1 he
      rw [he] at HT
      have HL := hid (fun (W : World) (hb : Below w.heap.size w W) => rLen_any a A t o cap c W (h.below hb) (hi.below hb) ht h2 hol)
      have HE2 := hid (HE.out.trans he)
      have HV8 := hid (show lenV8 t o = tourL t o from if_pos HE2.out)
      clear h hi hv ht he h2 h3 HE
      go_enter Try.func21, Try.ntmps21
      go_wp2_with fail
      refine HV.out.mono ?_
      rintro e w1 ⟨hb1, rfl⟩
      have HB1 := hid hb1
      have HC := hid (HT.out w1 hb1)
      clear hb1
      go_wp2_with fail
      refine HC.out.mono ?_
      rintro e w2 ⟨hb2, rfl⟩
      have HB2 := hid (HB1.out.trans (hb2.mono HB1.out.size))
      have HD := hid (HL.out w2 HB2.out)
      clear hb2 HC
      go_wp2_with fail
      refine HD.out.mono ?_
      rintro e w3 ⟨hb3, rfl⟩
      have HB3 := hid (HB2.out.trans (hb3.mono HB2.out.size))
      clear hb3
      go_wp2
      go_ret2
      exact ⟨HB3.out, by rw [HE2.out, HV8.out]; rfl⟩
    · have hne : (tourE o t.length == 0) = false := by simp; exact he
      have HE2 := hid HE.out
      have HV8 := hid (show lenV8 t o = 0 from if_neg (by rw [HE.out]; exact he))
      generalize tourE o t.length = e1 at *
      clear h hi hv ht HE
      go_enter Try.func21, Try.ntmps21
      go_wp2_with fail
      refine HV.out.mono ?_
      rintro e w1 ⟨hb1, rfl⟩
      have HB1 := hid hb1
      have HC := hid (HT.out w1 hb1)
      clear hb1
      go_wp2_with fail
      refine HC.out.mono ?_
      rintro e w2 ⟨hb2, rfl⟩
      have HB2 := hid (HB1.out.trans (hb2.mono HB1.out.size))
      clear hb2 HC
      go_wp2
      go_ret2
      exact ⟨HB2.out, by rw [HE2.out, HV8.out]; rfl⟩
  · have HE := hid (show lenE t o = vaV t from if_neg hv)
    have HV8 := hid (show lenV8 t o = 0 from if_neg (by rw [HE.out]; exact hv))
    generalize vaV t = e0 at *
    have hne : (e0 == 0) = false := by simp; exact hv
    clear h hi
    go_enter Try.func21, Try.ntmps21
    go_wp2_with fail
    refine HV.out.mono ?_
    rintro e w1 ⟨hb1, rfl⟩
    have HB1 := hid hb1
    clear hb1
    go_wp2
    go_ret2
    exact ⟨HB1.out, by rw [HE.out, HV8.out]; rfl⟩
end Go.Proofs.Ytbffdpcogfmomaa
