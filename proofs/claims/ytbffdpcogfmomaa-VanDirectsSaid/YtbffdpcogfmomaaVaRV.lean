/- The document's test of ways: chapter 8. -/
import Derived.Test.YtbffdpcogfmomaaVaA
set_option linter.unusedVariables false
namespace Go.Proofs.Ytbffdpcogfmomaa
open Go.RowKit

set_option maxHeartbeats 400000 in
theorem rWithin8_any (n lo hi : Int) (w : World) : Calls Try.prog 59 #[.int .i64 n, .int .i64 lo, .int .i64 hi] w (SaysK w (zin n lo hi)) := by
  by_cases h1 : lo ≤ n
  · by_cases h2 : n ≤ hi
    · rw [show zin n lo hi = true by simp [zin, h1, h2]]
      go_enter Try.func59, Try.ntmps59
      go_wp2
      go_ret
      exact ⟨rfl, ret_bool (by simp)⟩
    · rw [show zin n lo hi = false by simp [zin, h2]]
      have h2' : hi < n := by omega
      clear h2
      go_enter Try.func59, Try.ntmps59
      go_wp2
      go_ret
      exact ⟨rfl, ret_bool (by simp; omega)⟩
  · rw [show zin n lo hi = false by simp [zin, h1]]
    have h1' : n < lo := by omega
    clear h1
    go_enter Try.func59, Try.ntmps59
    go_wp2
    go_ret
    exact ⟨rfl, rfl⟩
set_option maxRecDepth 100000 in
set_option maxHeartbeats 4000000 in
theorem rValidate_any (a : Option Addr) (t : Tbl) (cap : Nat) (w : World) (h : TabAt w a t) : Calls Try.prog 23 #[.slice a t.length cap] w (IntR w (vaV t)) := by
  have hlen := h.len
  have HA := hid (rWithin8_any (t.length : Int) 1 7)
  by_cases h0 : 1 ≤ t.length ∧ t.length ≤ 7
  · rw [show zin (t.length : Int) 1 7 = true from decide_eq_true (by omega)] at HA
    obtain ⟨h1, h7⟩ := h0
    obtain ⟨b, off, rfl, hc⟩ := h.open_ (by omega)
    have HR := hid (show ∀ i, i < t.length → (tR t i).length ≤ 140737488355328 from fun i hi => by obtain ⟨A, c, _, h2⟩ := hc i hi; exact h2.len)
    have HC := hid hc
    clear hc h
    go_enter Try.func23, Try.ntmps23
    go_wp2_with fail
    refine (HA.out _).mono ?_
    rintro e w1 ⟨rfl, rfl⟩
    go_wp2_with fail
    go_loop [3] (fun i => ∃ (k : Nat), k ≤ t.length ∧ i = .int .i64 k ∧ Hid (∀ i, i < k → (tR t i).length = t.length)) (fun i => t.length - (intOf i).toNat)
    case atStart => exact ⟨0, Nat.zero_le _, rfl, fun i hi => by omega⟩
    case round =>
      obtain ⟨k, hk, rfl, HT⟩ := hrel
      by_cases hlt : k < t.length
      · obtain ⟨A, c, g, _⟩ := HC.out k hlt
        have hrl := HR.out k hlt
        have HN := hid (fun (e : (tR t k).length ≠ t.length) => (vaV_rows ⟨h1, h7⟩ (rowsB_not hlt e)))
        have HT2 := hid (fun (e : (tR t k).length = t.length) => show ∀ i, i < k + 1 → (tR t i).length = t.length from fun i hi => by
          rcases Nat.lt_or_ge i k with h | h
          · exact HT.out i h
          · rw [show i = k by omega]; exact e)
        by_cases he : (tR t k).length = t.length
        · have HX := hid (HT2.out he)
          have he' : (((tR t k).length : Int) == (t.length : Int)) = true := by simp; omega
          clear HN HT2
          have HE := hid he
          clear he
          generalize (tR t k).length = r at *
          go_wp2
          go_round
          case rel => exact ⟨k + 1, by omega, by go_num, HX⟩
          case measure => simp [intOf]; omega
        · have HX := hid (HN.out he)
          have he' : (((tR t k).length : Int) == (t.length : Int)) = false := by simp; omega
          clear HN HT2
          have HE := hid he
          clear he
          generalize (tR t k).length = r at *
          go_wp2
          go_ret
          exact ⟨Below.refl _ _, ret_int (by rw [HX.out])⟩
      · have HRw := hid (show ∀ i, i < t.length → (tR t i).length = t.length from fun i hi => HT.out i (by omega))
        clear HT HR
        go_wp2_with fail
        go_loopw [4] (fun i wr => ∃ (m : Nat), m ≤ t.length ∧ i = .int .i64 m ∧ Hid (∀ i j, i < m → j < t.length → okC t i j = true) ∧ Hid (Below w.heap.size w wr)) (fun i _ => t.length - (intOf i).toNat)
        case atStart => exact ⟨0, Nat.zero_le _, rfl, fun i j hi => by omega, Below.refl _ _⟩
        case round =>
          obtain ⟨m, hm, rfl, HM, HB⟩ := hrel
          by_cases hlt2 : m < t.length
          · obtain ⟨A, c, g, hI⟩ := HC.out m hlt2
            rw [HRw.out m hlt2] at g
            obtain ⟨b2, o2, rfl, hI2⟩ := hI.at' (by rw [HRw.out m hlt2]; omega)
            have HI := hid hI2
            have HG0 := hid g
            have gW := (HB.out.cell (cell_lt g)).trans g
            clear hI hI2 g
            go_wp2_with fail
            go_loopw [5] (fun i wr => ∃ (j : Nat), j ≤ t.length ∧ i = .int .i64 j ∧ Hid (∀ j', j' < j → okC t m j' = true) ∧ Hid (Below w.heap.size w wr)) (fun i _ => t.length - (intOf i).toNat)
            case atStart => exact ⟨0, Nat.zero_le _, rfl, fun j' hj => by omega, HB⟩
            case round =>
              obtain ⟨j, hj, rfl, HJ, HB2⟩ := hrel
              clear gW
              by_cases hlt3 : j < t.length
              · have c1 := HI.out j (by rw [HRw.out m hlt2]; exact hlt3)
                obtain ⟨A3, c3, g3, hI3⟩ := HC.out j hlt3
                rw [HRw.out j hlt3] at g3
                obtain ⟨b3, o3, rfl, hI4⟩ := hI3.at' (by rw [HRw.out j hlt3]; omega)
                have c2 := hI4 m (by rw [HRw.out j hlt3]; exact hlt2)
                have d1 := (HB2.out.cell (cell_lt c1)).trans c1
                have d2 := (HB2.out.cell (cell_lt g3)).trans g3
                have d3 := (HB2.out.cell (cell_lt c2)).trans c2
                have gm0 := HG0.out
                have d0 := (HB2.out.cell (cell_lt gm0)).trans gm0
                clear c1 c2 g3 hI3 hI4 gm0
                have HO := hid (okC_eq t m j)
                have HBad := hid (fun (e : okC t m j = false) => vaV_cells ⟨h1, h7⟩ (cellsB_not hlt2 hlt3 e))
                have HG := hid (fun (e : okC t m j = true) => show ∀ j', j' < j + 1 → okC t m j' = true from fun j' hj' => by
                  rcases Nat.lt_or_ge j' j with h | h
                  · exact HJ.out j' h
                  · rw [show j' = j by omega]; exact e)
                rw [show (tR t m)[j]?.getD 0 = tA t m j from rfl] at d1
                rw [show (tR t j)[m]?.getD 0 = tA t j m from rfl] at d3
                generalize tA t m j = x at *
                generalize tA t j m = y at *
                have qm : (m : Int) < (t.length : Int) := by omega
                have qj : (j : Int) < (t.length : Int) := by omega
                have HZ := hid (fun w => rWithin8_any x 0 1000 w)
                cases hz : zin x 0 1000 with
                | false =>
                  rw [hz] at HZ
                  have HN := hid (HBad.out (by rw [HO.out, hz]; rfl))
                  clear hz HO HBad HG
                  go_wp2_with fail
                  go_quiet ((go_at_call 59; exact Calls.quiet_of_same ((HZ.out _).mono fun _ _ h => ⟨h.2, h.1.symm⟩)))
                  go_wp2
                  go_ret
                  exact ⟨below_drewN HB2.out _, ret_int (by rw [HN.out])⟩
                | true =>
                  rw [hz] at HZ
                  by_cases hy' : ¬ x = y
                  · have hy : (x == y) = false := by simp; exact hy'
                    have HN := hid (HBad.out (by rw [HO.out, hz, hy]; rfl))
                    have hyn : (x != y) = true := by simp; exact hy'
                    clear hz HO HBad HG hy' hy
                    go_wp2_with fail
                    go_quiet ((go_at_call 59; exact Calls.quiet_of_same ((HZ.out _).mono fun _ _ h => ⟨h.2, h.1.symm⟩)))
                    go_wp2
                    go_ret
                    exact ⟨below_drewN HB2.out _, ret_int (by rw [HN.out])⟩
                  · have hy'' : x = y := Classical.not_not.1 hy'
                    have hy : (x == y) = true := by simp; exact hy''
                    rw [hz, hy] at HO
                    clear hy'
                    subst hy''
                    by_cases hmj : m = j
                    · rw [decide_eq_true hmj] at HO
                      subst hmj
                      have hbb := d0.symm.trans d2
                      simp only [Option.some.injEq, Value.slice.injEq, Addr.mk.injEq, and_true, true_and] at hbb
                      obtain ⟨⟨rfl, rfl⟩, rfl⟩ := hbb
                      clear d2 d3
                      have hmm : ((m : Int) == (m : Int)) = true := by simp
                      by_cases hx0' : x = 0
                      · have hx0 : (x == 0) = true := by simp; exact hx0'
                        have hx1 : ((0 : Int) != 0) = false := by simp
                        rw [hx0] at HO
                        have HN := hid (HG.out HO.out)
                        clear hz HO HBad HG hx0
                        subst hx0'
                        go_wp2_with fail
                        go_quiet ((go_at_call 59; exact Calls.quiet_of_same ((HZ.out _).mono fun _ _ h => ⟨h.2, h.1.symm⟩)))
                        go_wp2
                        go_roundw
                        case rel => exact ⟨m + 1, by omega, by go_num, HN, below_drewN HB2.out _⟩
                        case measure => simp [intOf]; omega
                      · have hx0 : (x == 0) = false := by simp; exact hx0'
                        have hx1 : (x != 0) = true := by simp; exact hx0'
                        rw [hx0] at HO
                        have HN := hid (HBad.out HO.out)
                        clear hz HO HBad HG hx0 hx0'
                        go_wp2_with fail
                        go_quiet ((go_at_call 59; exact Calls.quiet_of_same ((HZ.out _).mono fun _ _ h => ⟨h.2, h.1.symm⟩)))
                        go_wp2
                        go_ret
                        exact ⟨below_drewN HB2.out _, ret_int (by rw [HN.out])⟩
                    · have hmj' : ((m : Int) == (j : Int)) = false := by simp; omega
                      rw [decide_eq_false hmj] at HO
                      have HN := hid (HG.out HO.out)
                      clear hz HO HBad HG hmj
                      go_wp2_with fail
                      go_quiet ((go_at_call 59; exact Calls.quiet_of_same ((HZ.out _).mono fun _ _ h => ⟨h.2, h.1.symm⟩)))
                      go_wp2
                      go_roundw
                      case rel => exact ⟨j + 1, by omega, by go_num, HN, below_drewN HB2.out _⟩
                      case measure => simp [intOf]; omega
              · have HX := hid (show ∀ i j, i < m + 1 → j < t.length → okC t i j = true from fun i j' hi hj' => by
                  rcases Nat.lt_or_ge i m with h | h
                  · exact HM.out i j' h hj'
                  · rw [show i = m by omega]; exact HJ.out j' (by omega))
                go_wp2
                go_roundw
                case rel => exact ⟨m + 1, by omega, by go_num, HX, HB2⟩
                case measure => simp [intOf]; omega
          · have HX := hid (show vaV t = 0 from vaV_ok ⟨h1, h7⟩ ((rowsB_iff t).2 HRw.out) ((cellsB_iff t).2 fun i j hi hj => HM.out i j (by omega) hj))
            go_wp2
            go_ret
            exact ⟨HB.out, ret_int (by rw [HX.out])⟩
  · rw [show zin (t.length : Int) 1 7 = false from decide_eq_false (by omega)] at HA
    have HN := hid (vaV_large h0)
    clear h0 h
    go_enter Try.func23, Try.ntmps23
    go_wp2_with fail
    refine (HA.out _).mono ?_
    rintro e w1 ⟨rfl, rfl⟩
    go_wp2
    go_ret
    exact ⟨Below.refl _ _, ret_int (by rw [HN.out])⟩
end Go.Proofs.Ytbffdpcogfmomaa
