/- The tests of stops: chapter 8. -/
import Derived.Test.YtbffdpcogfmomaaVaSt
set_option linter.unusedVariables false
namespace Go.Proofs.Ytbffdpcogfmomaa
open Go.RowKit

theorem stsE_val {t : Tbl} {l : List St} (h : vaV t ≠ 0) : stsE t l = vaV t := if_neg h
theorem stsE_len {t : Tbl} {l : List St} (h : vaV t = 0) (h2 : l.length ≠ t.length) : stsE t l = 1 := by unfold stsE; rw [if_pos h, if_neg (fun e => h2 e.1)]
theorem stsE_all {t : Tbl} {l : List St} (h : vaV t = 0) (h2 : l.length = t.length) (h3 : ∀ k, k < l.length → okSt (stAt l k) = true) : stsE t l = 0 := by
  unfold stsE
  rw [if_pos h, if_pos ⟨h2, List.all_eq_true.2 fun s hs => by obtain ⟨i, hi, rfl⟩ := mem_stAt hs; exact h3 i hi⟩]
set_option maxRecDepth 100000 in
set_option maxHeartbeats 4000000 in
theorem vStops_any (a A : Option Addr) (t : Tbl) (l : List St) (cap c : Nat) (w : World) (h : TabAt w a t) (hs : StsAt w A l) : Calls Try.prog 44 #[.slice a t.length cap, .slice A l.length c] w (IntR w (stsE t l)) := by
  have HV := hid (vValidate_any a t cap w h)
  have htl := h.len
  have hsl := hs.len
  by_cases hv : vaV t = 0
  · rw [hv] at HV
    by_cases hlt : l.length = t.length
    · have HBad := hid (fun k hk e => stsE_bad (t := t) (l := l) (k := k) hv hk e)
      have HAll := hid (fun e => stsE_all (t := t) (l := l) hv hlt e)
      have hne : ((l.length : Int) == (t.length : Int)) = true := by simp; omega
      have hne2 : ((l.length : Int) != (t.length : Int)) = false := by simp; omega
      have HS := hid hs
      clear h hs hv hlt
      go_enter Try.func44, Try.ntmps44
      go_wp2_with fail
      refine HV.out.mono ?_
      rintro e w1 ⟨hb1, rfl⟩
      have HB1 := hid hb1
      clear hb1 HV
      go_wp2_with fail
      go_loopw [20] (fun i wr => ∃ (k : Nat), k ≤ l.length ∧ i = .int .i64 k ∧ Hid (∀ j, j < k → okSt (stAt l j) = true) ∧ Hid (Below w.heap.size w wr)) (fun i _ => l.length - (intOf i).toNat)
      case atStart => exact ⟨0, Nat.zero_le _, rfl, fun j hj => by omega, HB1⟩
      case round =>
        obtain ⟨k, hk, rfl, HG, HB⟩ := hrel
        clear HB1
        by_cases hltk : k < l.length
        · obtain ⟨b, off, rfl, hc⟩ := (HS.out.below HB.out).open_ (by omega)
          obtain ⟨c0, c1, c2, c3⟩ := hc k hltk
          have HX := hid (fun e => HBad.out k hltk e)
          have HY := hid (fun (e : okSt (stAt l k) = true) => show ∀ j, j < k + 1 → okSt (stAt l j) = true from fun j hj => by
            rcases Nat.lt_or_ge j k with h | h
            · exact HG.out j h
            · rw [show j = k by omega]; exact e)
          have HP := hid (fun (W : World) => vPossible_any (stAt l k) W)
          have hsz := HB.out.size
          have HB2 := hid (HB.out.alloc hsz (.cells #[.int .i64 (stAt l k).op, .int .i64 (stAt l k).cl, .int .i64 (stAt l k).sy, .int .i64 (stAt l k).bx] 105))
          clear hc
          generalize stAt l k = s at *
          obtain ⟨x, y, z, u⟩ := s
          simp only at c0 c1 c2 c3
          cases ho : okSt ⟨x, y, z, u⟩ with
          | false =>
            rw [ho] at HP
            have HZ := hid (HX.out ho)
            clear HX HY ho
            go_wp2_with fail
            refine (HP.out _).mono ?_
            rintro e w2 ⟨hb2, rfl⟩
            have HB3 := hid (HB2.out.trans (hb2.mono HB2.out.size))
            clear hb2
            go_wp2
            go_ret
            exact ⟨HB3.out, ret_int (by rw [HZ.out])⟩
          | true =>
            rw [ho] at HP
            have HZ := hid (HY.out ho)
            clear HX HY ho
            go_wp2_with fail
            refine (HP.out _).mono ?_
            rintro e w2 ⟨hb2, rfl⟩
            have HB3 := hid (HB2.out.trans (hb2.mono HB2.out.size))
            clear hb2
            go_wp2
            go_roundw
            case rel => exact ⟨k + 1, by omega, by go_num, HZ, HB3⟩
            case measure => simp [intOf]; omega
        · have HZ := hid (HAll.out (fun j hj => HG.out j (by omega)))
          go_wp2
          go_ret
          exact ⟨HB.out, ret_int (by rw [HZ.out])⟩
    · have HN := hid (stsE_len (l := l) hv hlt)
      have hne : ((l.length : Int) == (t.length : Int)) = false := by simp; omega
      have hne2 : ((l.length : Int) != (t.length : Int)) = true := by simp; omega
      clear h hs hv hlt
      go_enter Try.func44, Try.ntmps44
      go_wp2_with fail
      refine HV.out.mono ?_
      rintro e w1 ⟨hb1, rfl⟩
      have HB1 := hid hb1
      clear hb1
      go_wp2
      go_ret
      exact ⟨HB1.out, ret_int (by rw [HN.out])⟩
  · have HN := hid (stsE_val (l := l) hv)
    have hne : (vaV t == 0) = false := by simp; exact hv
    clear h hs
    generalize vaV t = e0 at *
    go_enter Try.func44, Try.ntmps44
    go_wp2_with fail
    refine HV.out.mono ?_
    rintro e w1 ⟨hb1, rfl⟩
    have HB1 := hid hb1
    clear hb1
    go_wp2
    go_ret
    exact ⟨HB1.out, ret_int (by rw [HN.out])⟩
/-- The errors of ways, stops and a tour. -/
def touE (t : Tbl) (l : List St) (o : List Int) : Int := if stsE t l = 0 then tourE o t.length else stsE t l
def drvE (t : Tbl) (l : List St) (o : List Int) (b : Int) : Int := if touE t l o = 0 then (if zin b 0 10000 = true then 0 else 1) else touE t l o
theorem drvE_ok {t : Tbl} {l : List St} {o : List Int} {b : Int} (h : drvE t l o b = 0) : Ways t ∧ StsOk l t.length ∧ StopsOk o t.length ∧ o.Nodup ∧ 0 ≤ b ∧ b ≤ 10000 := by
  unfold drvE at h
  split at h
  · rename_i h1
    split at h
    · rename_i h2
      unfold touE at h1
      split at h1
      · rename_i h3
        obtain ⟨h4, h5⟩ := stsE_ok h3
        obtain ⟨h6, h7⟩ := (tourE_iff o t.length).1 h1
        exact ⟨h4, h5, h6, h7, of_decide_eq_true h2⟩
      · rename_i h3; exact absurd h1 h3
    · cases h
  · rename_i h1; exact absurd h h1
end Go.Proofs.Ytbffdpcogfmomaa
