/- Round, the program's: package van. -/
import Derived.Test.YtbffdpcogfmomaaVaRoM
import Derived.Test.YtbffdpcogfmomaaVaTree
import Derived.Deep.AppendLies
set_option linter.unusedVariables false
namespace Go.Proofs.Ytbffdpcogfmomaa
open Go.RowKit

set_option maxRecDepth 100000 in
set_option maxHeartbeats 2000000 in
theorem vIndex_any (A : Option Addr) (l : List Int) (c : Nat) (x : Int) (w : World) (h : Ints w A l) (hx : x ∈ l) (hl : l.length ≤ 1000) :
  Calls Try.prog 67 #[.slice A l.length c, .int .i64 x] w (fun en w' => w = w' ∧ ∃ b : Nat, b < l.length ∧ vAt l b = x ∧ en = .returned (.int .i64 (b : Int))) := by
  have HI := hid h
  have HX := hid hx
  clear h hx
  go_enter Try.func67, Try.ntmps67
  go_wp2_with fail
  go_loop [8] (fun s => ∃ (k : Nat), k ≤ l.length ∧ s = .int .i64 (k : Int) ∧ Hid (∀ j, j < k → vAt l j ≠ x)) (fun s => l.length - (intOf s).toNat)
  case atStart => exact ⟨0, Nat.zero_le _, rfl, fun j hj => by omega⟩
  case round =>
    obtain ⟨k, hk, rfl, HG⟩ := hrel
    have hkl : k < l.length := by
      obtain ⟨i, hi, e⟩ := mem_vAt HX.out
      rcases Nat.lt_or_ge i k with h | h
      · exact absurd e (HG.out i h)
      · omega
    obtain ⟨b2, o2, rfl, hc2⟩ := HI.out.at' (by omega)
    have c0 := hc2 k hkl
    rw [show l[k]?.getD 0 = vAt l k from rfl] at c0
    have q1 : (k : Int) < (l.length : Int) := by omega
    obtain ⟨y, hy⟩ : ∃ y, vAt l k = y := ⟨_, rfl⟩
    have HY := hid hy
    rw [hy] at c0
    clear hc2 hy
    by_cases hxy : x = y
    · subst hxy
      go_wp2
      go_ret
      exact ⟨rfl, k, hkl, HY.out, rfl⟩
    · have d1 : (x == y) = false := by simp; exact hxy
      have HG2 := hid (show ∀ j, j < k + 1 → vAt l j ≠ x from fun j hj => by
        rcases Nat.lt_or_ge j k with h | h
        · exact HG.out j h
        · rw [show j = k by omega, HY.out]; exact fun e => hxy e.symm)
      go_wp2
      go_round
      case rel => exact ⟨k + 1, by omega, by go_num, HG2⟩
      case measure => simp [intOf]; omega
/-- The error of ways and a first stop. -/
def rndE (t : Tbl) (x : Int) : Int := if vaV t = 0 then (if zin x 1 ((t.length : Int) - 1) = true then 0 else 5) else vaV t
/-- What Round answers. -/
def RndR (t : Tbl) (x : Int) (w : World) (en : Ending) (w' : World) : Prop :=
  Below w.heap.size w w' ∧ ((rndE t x ≠ 0 ∧ en = .returned (.tuple #[.slice none 0 0, .int .i64 (rndE t x)])) ∨
    (rndE t x = 0 ∧ ∃ T A c, RoundTo t t.length x T ∧ T.length = t.length - 1 ∧ Ints w' A T ∧ en = .returned (.tuple #[.slice A T.length c, .int .i64 0])))
/-- What stands at the head of Round's loop. -/
structure RndS (t : Tbl) (x : Int) (base : Nat) (w : World) (g7 c7 g8 c8 : Nat) (T0 R : List Int) (b : Nat) : Prop where
  o7 : Own w base (.slice (some ⟨g7, 0, none⟩) (T0.length + 1) c7) (T0 ++ [vAt R b])
  o8 : Own w base (.slice (some ⟨g8, 0, none⟩) R.length c8) R
  ne : g7 ≠ g8
  lt : b < R.length
  rem : Rem t.length T0 R
  rt : RoundTo t t.length x (T0 ++ [vAt R b])
theorem own_at {w : World} {base g n c : Nat} {xs : List Int} (h : Own w base (.slice (some ⟨g, 0, none⟩) n c) xs) (k : Nat) (hk : k < xs.length) : w.cell? ⟨g, k, none⟩ = some (.int .i64 (vAt xs k)) := by
  obtain ⟨g', c', cur, hv, hg, hh, hc, hs, ht⟩ := own_some h (by omega)
  simp only [Value.slice.injEq, Option.some.injEq, Addr.mk.injEq, and_true] at hv
  obtain ⟨rfl, _, _⟩ := hv
  rw [cell_of_row w g k cur _ _ hh]
  have e1 : (cur.toList.take xs.length)[k]? = (xs.map (Value.int .i64))[k]? := by rw [ht]
  rw [List.getElem?_take_of_lt hk, List.getElem?_map, List.getElem?_eq_getElem hk] at e1
  rw [← Array.getElem?_toList, e1]
  simp [vAt, hk]
theorem own_intsR {w : World} {base g n c : Nat} {xs : List Int} (h : Own w base (.slice (some ⟨g, 0, none⟩) n c) xs) (hl : xs.length ≤ 1000) (hb : ∀ x ∈ xs, -9223372036854775808 ≤ x ∧ x ≤ 9223372036854775807) : Ints w (some ⟨g, 0, none⟩) xs := by
  obtain ⟨a, cap, hv, hi⟩ := h.ints (by omega) hb
  cases hv
  exact hi
set_option maxRecDepth 100000 in
set_option maxHeartbeats 8000000 in
theorem vRound_any (a : Option Addr) (t : Tbl) (x : Int) (cap : Nat) (w : World) (h : TabAt w a t) : Calls Try.prog 27 #[.slice a t.length cap, .int .i64 x] w (RndR t x w) := by
  obtain ⟨i0, hinf, hz0, hz1, hz2⟩ := info_parts int_info
  have HV := hid (vValidate_any a t cap w h)
  by_cases hv : vaV t = 0
  · have ht := (ways_iff t).1 hv
    have hl7 := ht.len
    have hpos := ht.pos
    rw [hv] at HV
    have HS := hid (fun (W : World) => vIsStop_any x t.length hl7 W)
    cases hz : zin x 1 ((t.length : Int) - 1) with
    | false =>
      have HE := hid (show rndE t x = 5 by unfold rndE; rw [if_pos hv, if_neg (by simp [hz])])
      rw [hz] at HS
      clear h hv ht hz
      as_aux_lemma =>
        go_enter Try.func27, Try.ntmps27
        go_wp2_with fail
        refine HV.out.mono ?_
        rintro e w1 ⟨hb1, rfl⟩
        have HB1 := hid hb1
        clear hb1
        go_wp2_with fail
        refine (HS.out _).mono ?_
        rintro e w2 ⟨rfl, rfl⟩
        go_wp2
        go_ret2
        exact ⟨HB1.out, .inl ⟨by rw [HE.out]; decide, by rw [HE.out]; rfl⟩⟩
    | true =>
      have HE := hid (show rndE t x = 0 by unfold rndE; rw [if_pos hv, if_pos hz])
      have hx : 1 ≤ x ∧ x < t.length := by simp [zin] at hz; omega
      rw [hz] at HS
      have HA := hid (fun (W : World) => vAllStops_any t.length hl7 hpos W)
      have HX := hid (fun (W : World) (A : Option Addr) (c : Nat) (hI : Ints W A (stopsL t.length)) => vIndex_any A (stopsL t.length) c x W hI ((stopsL_mem _ _).2 hx) (by rw [stopsL_len]; omega))
      have HT := hid h
      have HWy := hid ht
      have HSl := hid (stopsL_len t.length)
      have HR0 := hid (Rem.start t.length)
      have HRt := hid (RoundTo.start t t.length x hx)
      have HSb := hid (fun y (hy : y ∈ stopsL t.length) => (show -9223372036854775808 ≤ y ∧ y ≤ 9223372036854775807 from by have := (stopsL_mem _ _).1 hy; omega))
      obtain ⟨S0, hS0⟩ : ∃ S0, stopsL t.length = S0 := ⟨_, rfl⟩
      rw [hS0] at HX HSl HR0 HSb
      have HS0 := hid hS0
      clear h hv ht hz hS0
      go_enter Try.func27, Try.ntmps27
      go_wp2_with fail
      refine HV.out.mono ?_
      rintro e w1 ⟨hb1, rfl⟩
      have HB1 := hid hb1
      clear hb1 HV
      go_wp2_with fail
      refine (HS.out _).mono ?_
      rintro e w2 ⟨rfl, rfl⟩
      have hal := (Below.refl w1.heap.size w1).alloc (Nat.le_refl _) (.cells #[.int .i64 x] 3)
      have hO : Own (w1.alloc (.cells #[.int .i64 x] 3)) w1.heap.size (.slice (some ⟨w1.heap.size, 0, none⟩) 1 1) [x] := World.ownsRow_lit w1 #[.int .i64 x] 1 (Nat.le_refl _) (by decide) rfl
      go_wp2_with fail
      obtain ⟨w2, hw2⟩ : ∃ w2, w1.alloc (.cells #[.int .i64 x] 3) = w2 := ⟨_, rfl⟩
      have hs2 : w2.heap.size = w1.heap.size + 1 := by rw [← hw2]; simp
      rw [hw2] at hal hO ⊢
      have HB2 := hid (HB1.out.trans (hal.mono HB1.out.size))
      have HO := hid hO
      have h12 := HB1.out.size
      clear hw2 hal hO
      refine (HA.out w2).mono ?_
      rintro e w3 ⟨hb3, A8, c8, rfl, hO8⟩
      rw [HS0.out] at hO8 ⊢
      have HB3 := hid (HB2.out.trans (hb3.mono HB2.out.size))
      have HO7 := hid (own_weak (HO.out.below hb3) h12)
      have hn1 : 1 ≤ S0.length := by rw [HSl.out]; omega
      obtain ⟨g8, c8', cur8, hv8, hg8, _⟩ := own_some hO8 hn1
      simp only [Value.slice.injEq, true_and] at hv8
      obtain ⟨rfl, rfl⟩ := hv8
      have HI8 := hid (own_intsR hO8 (by rw [HSl.out]; omega) HSb.out)
      have HO8 := hid (own_weak hO8 (show w.heap.size ≤ w2.heap.size by omega))
      have hne : w1.heap.size ≠ g8 := by omega
      clear hb3 hO8 hg8 HO HA
      go_wp2_with fail
      refine (HX.out w3 _ c8 HI8.out).mono ?_
      rintro e w4 ⟨rfl, b, hb, hbx, rfl⟩
      have HSt := hid (show RndS t x w.heap.size w3 w1.heap.size 1 g8 c8 [] S0 b from ⟨by rw [hbx]; exact HO7.out, HO8.out, hne, hb, HR0.out, by rw [hbx]; exact HRt.out⟩)
      clear HI8 HO7 HO8 HX hb hbx HRt HR0 HSb hne hs2
      go_wp2_with fail
      go_loopw [7, 8, 9] (fun s7 s8 s9 wr => ∃ (T0 R : List Int) (g7 c7 g8 c8 b : Nat), s7 = .slice (some ⟨g7, 0, none⟩) (T0.length + 1) c7 ∧ s8 = .slice (some ⟨g8, 0, none⟩) R.length c8 ∧ s9 = .int .i64 (b : Int) ∧ Hid (RndS t x w.heap.size wr g7 c7 g8 c8 T0 R b) ∧ Hid (Below w.heap.size w wr)) (fun _ s8 _ _ => match s8 with | .slice _ n _ => n | _ => 0)
      case atStart => exact ⟨[], S0, w1.heap.size, 1, g8, c8, b, rfl, rfl, rfl, HSt, HB3⟩
      case round =>
        obtain ⟨T0, R, g7, c7, g8, c8, b, rfl, rfl, rfl, HR, HB⟩ := hrel
        clear HSt HB3
        have hrl := HR.out.rem.len
        have hblt := HR.out.lt
        have hnd : (R.eraseIdx b).length = R.length - 1 := by rw [List.length_eraseIdx, if_pos hblt]
        have HDl := hid (vDelete_any wr w.heap.size g8 c8 R b HR.out.o8 hblt (by omega))
        obtain ⟨R1, hR1⟩ : ∃ R1, R.eraseIdx b = R1 := ⟨_, rfl⟩
        have HRm := hid (show Rem t.length (T0 ++ [vAt R b]) R1 by rw [← hR1]; exact HR.out.rem.take hblt)
        rw [hR1] at HDl hnd
        obtain ⟨rl, hrl9⟩ : ∃ rl, R.length = rl := ⟨_, rfl⟩
        rw [hrl9] at HDl hnd hrl
        rw [hrl9]
        have hx9 := (HR.out.rem.at_ hblt).1
        obtain ⟨y, hy⟩ : ∃ y, vAt R b = y := ⟨_, rfl⟩
        have ho7 := HR.out.o7
        have hrt := HR.out.rt
        rw [hy] at HRm hx9 ho7 hrt
        have HO7 := hid ho7
        have HRt := hid hrt
        have hne := HR.out.ne
        obtain ⟨n1, hn1⟩ : ∃ n1, R1.length = n1 := ⟨_, rfl⟩
        have HN1 := hid hn1
        rw [hn1] at HDl hnd
        have hlt1 : n1 < rl := by
          have : 0 < rl := by omega
          omega
        have hwr := HB.out.size
        have hge8 : w.heap.size ≤ g8 := by
          obtain ⟨g', _, _, hv, hg, _⟩ := own_some HR.out.o8 (by omega)
          simp only [Value.slice.injEq, Option.some.injEq, Addr.mk.injEq, and_true] at hv
          rw [hv.1]; exact hg
        have htl : (T0 ++ [y]).length = T0.length + 1 := by simp
        have hT6 : T0.length + 1 ≤ 100 := by omega
        have hb6 : b ≤ 100 := by omega
        have hn7 : n1 ≤ 7 := by omega
        have HTL := hid htl
        clear hR1 hrl9 hy ho7 hrt hn1 hnd hblt hrl HR htl
        go_wp2_with fail
        refine HDl.out.mono ?_
        rintro e w4 ⟨hk4, rfl, hO8⟩
        have HB4 := hid (HB.out.trans (hk4.below hge8 hwr))
        have HO74 := hid (own_keep1 HO7.out hk4 hne)
        have HO84 := hid hO8
        clear hk4 hO8 HDl HO7
        by_cases hn0 : n1 = 0
        · subst hn0
          have hI := own_intsR HO74.out (by rw [HTL.out]; omega) (fun z hz => by have := HRt.out.ok z hz; omega)
          have HI := hid hI
          have HTl := hid (show (T0 ++ [y]).length = t.length - 1 by have := HRm.out.len; rw [HN1.out] at this; omega)
          have HTl2 := HTL
          clear hI
          as_aux_lemma =>
            go_wp2
            go_ret2
            exact ⟨HB4.out, .inr ⟨HE.out, T0 ++ [y], _, c7, HRt.out, HTl.out, HI.out, by rw [HTl2.out]; rfl⟩⟩
        · have hn1' : 0 < n1 := by omega
          obtain ⟨yn, rfl⟩ := Int.eq_ofNat_of_zero_le (show 0 ≤ y by omega)
          have hyn : yn < t.length := by omega
          have l0 := own_at HO74.out T0.length (by rw [HTL.out]; omega)
          rw [show vAt (T0 ++ [(yn : Int)]) T0.length = (yn : Int) by simp [vAt]] at l0
          obtain ⟨b1, o1, rfl, HC⟩ := (HT.out.below HB4.out).sq HWy.out.sq hpos
          obtain ⟨b2, o2, c2, r0, rI, _⟩ := HC yn hyn
          have hrow := HWy.out.sq.rows yn hyn
          have hR1b : ∀ z ∈ R1, 1 ≤ z ∧ z < t.length := fun z hz => ((HRm.out.mem z).1 hz).1
          have HI8 := hid (own_intsR HO84.out (by rw [HN1.out]; omega) (fun z hz => by have := hR1b z hz; omega))
          have HNr := hid (by
            have := vNearest_any (some ⟨b2, o2, none⟩) (some ⟨g8, 0, none⟩) (tR t yn) R1 c2 c8 w4 rI HI8.out (by rw [HN1.out]; exact hn1') (by rw [HN1.out]; omega) (fun z hz => by have := hR1b z hz; rw [hrow]; omega)
            rw [hrow, HN1.out] at this
            exact this)
          have HNx := hid (fun (b' : Nat) (hN : NearI (tR t yn) R1 b') => (show NearTo t t.length (T0 ++ [(yn : Int)]) (vAt R1 b') from HRm.out.near hN.lt (row := tR t yn) (fun z => by rw [show lastP (T0 ++ [(yn : Int)]) (T0 ++ [(yn : Int)]).length = (yn : Int) by rw [HTL.out]; simp [lastP, vAt]]; rfl) hN.le hN.fst))
          obtain ⟨k, hk⟩ : ∃ k, T0.length = k := ⟨_, rfl⟩
          have HK := hid hk
          rw [hk] at l0 HTL HO74 hT6
          rw [hk]
          have q1 : (k : Int) < ((k + 1 : Nat) : Int) := by omega
          have q2 : (yn : Int) < (t.length : Int) := by omega
          have hg8 : g8 < w4.heap.size := by
            obtain ⟨g', _, _, hv, _, hh, _⟩ := own_some HO84.out (by rw [HN1.out]; exact hn1')
            simp only [Value.slice.injEq, Option.some.injEq, Addr.mk.injEq, and_true] at hv
            rw [hv.1]; exact lt_block hh
          have hB4s := HB4.out.size
          clear HC rI hrow hR1b HI8 hk hyn hx9
          go_wp2_with fail
          refine HNr.out.mono ?_
          rintro e w5 ⟨nq, b', rfl, rfl, hN⟩
          have HN5 := hid hN
          have hb' := hN.lt
          rw [HN1.out] at hb'
          have z0 := own_at HO84.out b' (by rw [HN1.out]; exact hb')
          have z0' : (w4.drewN nq).cell? ⟨g8, b', none⟩ = some (.int .i64 (vAt R1 b')) := z0
          have HB5 := hid (below_drewN HB4.out nq)
          have HO75 := hid (HO74.out.below (below_drewN (Below.refl _ _) nq))
          have HO85 := hid (HO84.out.below (below_drewN (Below.refl _ _) nq))
          have hs5 : w4.heap.size ≤ (w4.drewN nq).heap.size := (below_drewN (Below.refl w4.heap.size w4) nq).size
          obtain ⟨z, hz9⟩ : ∃ z, vAt R1 b' = z := ⟨_, rfl⟩
          have HZ := hid hz9
          rw [hz9] at z0'
          clear hN l0 r0 z0 hz9 HNr
          generalize w4.drewN nq = w5 at *
          have q3 : (b' : Int) < (n1 : Int) := by omega
          have ho5 := HO75.out
          unfold Own at ho5
          rw [HTL.out] at ho5
          have HO5 := hid ho5
          clear ho5
          go_wp2_with (at_builtin; refine wpList_append_lies _ rfl _ _ 23 rfl w.heap.size 3 i0 (.int .i64 0) 1 8 Try.underlying23 hinf hz0 hz1 hz2 rfl (by decide) _ (k + 1) ((T0 ++ [(yn : Int)]).map (Value.int .i64)) rfl (HO5.out.alloc _) ⟨w5.heap.size, 0, none⟩ 1 1 [.int .i64 z] rfl rfl (cell_one_new _ _ _) (by simp [Value.oneCell']) (by decide) (by unfold maxLen; omega) (by omega) (by simp; omega) (w5.heap.size + 1) (by simp) ?_)
          intro g9 c9 w6 hown6 hgrow6 hat hlt
          have hal := (Below.refl w5.heap.size w5).alloc (Nat.le_refl _) (.cells #[.int .i64 z] 3)
          have HB6 := hid ((HB5.out.alloc HB5.out.size (.cells #[.int .i64 z] 3)).grown hgrow6 (by simp; omega) (fun q hq => by have := (World.ownsRow.lt HO5.out q hq).1; omega))
          have HS6 := hid (show RndS t x w.heap.size w6 g9 c9 g8 c8 (T0 ++ [(yn : Int)]) R1 b' from ⟨by
              rw [HZ.out, HTL.out]
              unfold Own
              rw [List.length_append, HTL.out, List.map_append]
              simpa using hown6, by
              have := HO85.out.below hal
              rw [HN1.out] 
              exact own_keep1 this (Keep1.of_grown hgrow6) (fun e => hne e.symm), by
              rcases hat with h | h
              · simp only [Value.ownBlock, Option.some.injEq] at h
                rw [← h]; exact hne
              · omega, by rw [HN1.out]; exact hb', HRm.out, by
              exact HRt.out.push (HNx.out b' HN5.out)⟩)
          have HN1b := HN1
          clear hown6 hgrow6 hat hlt hal HO5 HO75 HO85 HB5 HNx HN5
          as_aux_lemma =>
            go_wp2
            go_roundw
            case rel => exact ⟨T0 ++ [(yn : Int)], R1, g9, c9, g8, c8, b', by rw [HTL.out], by rw [HN1.out], rfl, HS6, HB6⟩
            case measure => simp; omega
  · have HE := hid (show rndE t x = vaV t from if_neg hv)
    obtain ⟨e0, he0⟩ : ∃ e0, vaV t = e0 := ⟨_, rfl⟩
    rw [he0] at HV hv HE
    have HQ := hid hv
    have hne : (e0 == 0) = false := by simp; exact hv
    have hnn : (e0 != 0) = true := by simp; exact hv
    clear h he0
    as_aux_lemma =>
      go_enter Try.func27, Try.ntmps27
      go_wp2_with fail
      refine HV.out.mono ?_
      rintro e w1 ⟨hb1, rfl⟩
      have HB1 := hid hb1
      clear hb1
      go_wp2
      go_ret2
      exact ⟨HB1.out, .inl ⟨by rw [HE.out]; exact HQ.out, by rw [HE.out]; rfl⟩⟩
end Go.Proofs.Ytbffdpcogfmomaa
