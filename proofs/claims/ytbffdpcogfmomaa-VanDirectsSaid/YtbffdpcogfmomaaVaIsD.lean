/- The program's IsDirect: chapter 8. -/
import Derived.Test.YtbffdpcogfmomaaVaDir
set_option linter.unusedVariables false
namespace Go.Proofs.Ytbffdpcogfmomaa
open Go.RowKit Go.Maps

/-- Whether no detour is shorter than a way. -/
def isDirB (t : Tbl) : Bool := (List.range t.length).all fun i => (List.range t.length).all fun j => fwM t t.length i j == tA t i j
theorem isDirB_iff (t : Tbl) : isDirB t = true ↔ ∀ i j, i < t.length → j < t.length → fwM t t.length i j = tA t i j := by
  simp only [isDirB, List.all_eq_true, List.mem_range, beq_iff_eq]
  exact ⟨fun h i j hi hj => h i hi j hj, fun h i hi j hj => h i j hi hj⟩
theorem isDirB_not {t : Tbl} {i j : Nat} (hi : i < t.length) (hj : j < t.length) (h : fwM t t.length i j ≠ tA t i j) : isDirB t = false := by
  rw [Bool.eq_false_iff]; intro e; exact h ((isDirB_iff t).1 e i j hi hj)
/-- What IsDirect answers. -/
def isDirV (t : Tbl) : Bool := decide (vaV t = 0) && isDirB t
def IsDR (t : Tbl) (w : World) (en : Ending) (w' : World) : Prop := Below w.heap.size w w' ∧ en = .returned (.tuple #[.bool (isDirV t), .int .i64 (vaV t)])
set_option maxRecDepth 100000 in
set_option maxHeartbeats 4000000 in
theorem vIsDirect_any (a : Option Addr) (t : Tbl) (cap : Nat) (w : World) (h : TabAt w a t) : Calls Try.prog 38 #[.slice a t.length cap] w (IsDR t w) := by
  have HV := hid (vValidate_any a t cap w h)
  by_cases hv : vaV t = 0
  · have hws := (ways_iff t).1 hv
    have hl7 := hws.len
    have hpos := hws.pos
    have HD := hid (fun (W : World) (hb : Below w.heap.size w W) => vDistances_any a t cap W (h.below hb) hws)
    have HE := hid hv
    have HI := hid (show isDirV t = isDirB t by unfold isDirV; rw [hv]; rfl)
    obtain ⟨b, off, rfl, hc⟩ := h.sq hws.sq hpos
    have HC := hid (fun (w' : World) (hb : Below w.heap.size w w') => show ∀ i, i < t.length → ∃ b2 o2 c, w'.cell? ⟨b, off + i, none⟩ = some (.slice (some ⟨b2, o2, none⟩) t.length c) ∧ ∀ j, j < t.length → w'.cell? ⟨b2, o2 + j, none⟩ = some (.int .i64 (tA t i j)) from fun i hi => by
      obtain ⟨b2, o2, c, h1, _, h3⟩ := hc i hi
      exact ⟨b2, o2, c, by rw [hb.cell (cell_lt h1)]; exact h1, fun j hj => by rw [hb.cell (cell_lt (h3 j hj))]; exact h3 j hj⟩)
    rw [hv] at HV
    clear h hv hws hc
    go_enter Try.func38, Try.ntmps38
    go_wp2_with fail
    refine HV.out.mono ?_
    rintro e w1 ⟨hb1, rfl⟩
    have HB1 := hid hb1
    clear hb1
    go_wp2_with fail
    refine (HD.out _ HB1.out).mono ?_
    rintro e w2 ⟨hb2, m, cnt, rfl, hge, hm⟩
    have HB2 := hid (HB1.out.trans (hb2.mono HB1.out.size))
    have HM := hid hm
    clear hb2 hm hge
    as_aux_lemma =>
    go_wp2_with fail
    go_loop [19] (fun i => ∃ (k : Nat), k ≤ t.length ∧ i = .int .i64 k ∧ Hid (∀ i j, i < k → j < t.length → fwM t t.length i j = tA t i j)) (fun i => t.length - (intOf i).toNat)
    case atStart => exact ⟨0, Nat.zero_le _, rfl, fun i j hi => by omega⟩
    case round =>
      obtain ⟨k, hk, rfl, HR⟩ := hrel
      by_cases hlt : k < t.length
      · obtain ⟨b2, o2, c2, g1, hg2⟩ := HC.out w2 HB2.out k hlt
        have HG2 := hid hg2
        have q1 : (k : Int) < (t.length : Int) := by omega
        clear hg2
        go_wp2_with fail
        go_loop [26] (fun i => ∃ (j : Nat), j ≤ t.length ∧ i = .int .i64 j ∧ Hid (∀ p, p < j → fwM t t.length k p = tA t k p)) (fun i => t.length - (intOf i).toNat)
        case atStart => exact ⟨0, Nat.zero_le _, rfl, fun p hp => by omega⟩
        case round =>
          obtain ⟨j, hj, rfl, HRj⟩ := hrel
          by_cases hltj : j < t.length
          · have l1 := HM.out.look k j (by omega) (by omega) _ (mapF_at hlt hltj)
            have d1 := HG2.out j hltj
            have q2 : (j : Int) < (t.length : Int) := by omega
            have HX := hid (fun (e : fwM t t.length k j = tA t k j) => show ∀ p, p < j + 1 → fwM t t.length k p = tA t k p from fun p hp => by
              by_cases e2 : p = j
              · rw [e2]; exact e
              · exact HRj.out p (by omega))
            have HN := hid (fun (e : fwM t t.length k j ≠ tA t k j) => isDirB_not hlt hltj e)
            clear g1
            generalize fwM t t.length k j = x at *
            generalize tA t k j = y at *
            by_cases he : x = y
            · have HX2 := hid (HX.out he)
              have hne : (x != y) = false := by rw [he]; simp
              clear HX HN
              as_aux_lemma =>
                go_wp2
                go_round
                case rel => exact ⟨j + 1, by omega, by go_num, HX2⟩
                case measure => simp [intOf]; omega
            · have HN2 := hid (HN.out he)
              have hne : (x != y) = true := by simp; exact he
              clear HX HN
              as_aux_lemma =>
                go_wp2
                go_ret2
                exact ⟨HB2.out, by rw [HI.out, HN2.out, HE.out]; rfl⟩
          · obtain rfl : j = t.length := by omega
            have HX2 := hid (show ∀ i j, i < k + 1 → j < t.length → fwM t t.length i j = tA t i j from fun i j hi hj => by
              by_cases e : i = k
              · rw [e]; exact HRj.out j hj
              · exact HR.out i j (by omega) hj)
            as_aux_lemma =>
              go_wp2
              go_round
              case rel => exact ⟨k + 1, by omega, by go_num, HX2⟩
              case measure => simp [intOf]; omega
      · obtain rfl : k = t.length := by omega
        have HF := hid ((isDirB_iff t).2 (fun i j hi hj => HR.out i j hi hj))
        as_aux_lemma =>
          go_wp2
          go_ret2
          exact ⟨HB2.out, by rw [HI.out, HF.out, HE.out]; rfl⟩
  · have HE := hid (show isDirV t = false by unfold isDirV; rw [decide_eq_false hv]; rfl)
    obtain ⟨e0, he0⟩ : ∃ e0, vaV t = e0 := ⟨_, rfl⟩
    have H0 := hid he0
    rw [he0] at HV hv
    have hne : (e0 == 0) = false := by simp; exact hv
    have hnn : (e0 != 0) = true := by simp; exact hv
    clear h he0
    go_enter Try.func38, Try.ntmps38
    go_wp2_with fail
    refine HV.out.mono ?_
    rintro e w1 ⟨hb1, rfl⟩
    have HB1 := hid hb1
    clear hb1
    go_wp2
    go_ret2
    exact ⟨HB1.out, by rw [HE.out, H0.out]; rfl⟩
end Go.Proofs.Ytbffdpcogfmomaa
