/- The document's own answers of chapter 4: step, compare, claimer, given, Divide, Order, Claimer. -/
import Derived.Test.YtnjaacmcdkiilaaShL
set_option linter.unusedVariables false
namespace Go.Proofs.Ytnjaacmcdkiilaa
open Go.RowKit

set_option maxHeartbeats 400000 in
theorem rstep_any (kind k : Int) (w : World) (h : okK kind = true) (h0 : 0 ≤ k) (h1 : k ≤ 1001) : Calls Try.prog 67 #[.int .i64 kind, .int .i64 k] w fun en w' => w = w' ∧ en = .returned (.int .i64 (stepV kind k)) := by
  rcases okK_cases h with rfl | rfl | rfl
  · go_enter Try.func67, Try.ntmps67
    go_wp2
    go_ret
    exact ⟨rfl, ret_int (by simp [stepV])⟩
  · go_enter Try.func67, Try.ntmps67
    go_wp2
    go_ret
    exact ⟨rfl, ret_int (by simp [stepV])⟩
  · go_enter Try.func67, Try.ntmps67
    go_wp2
    go_ret
    exact ⟨rfl, ret_int (by simp [stepV])⟩

theorem szC_inf {v a w b : Int} (ha : a = 0) (hb : 0 < b) (hv : 0 < v) : szC v a w b = 1 := by
  subst ha
  have h : 0 < v * b := Int.mul_pos hv hb
  unfold szC
  rw [if_neg (by omega), Int.mul_zero]
  rcases cmpI_cases (v * b) 0 with h' | h' | h' <;> omega
theorem szC_fin {v a w b : Int} (hb : b = 0) (ha : 0 < a) (hw : 0 < w) : szC v a w b = -1 := by
  subst hb
  have h : 0 < w * a := Int.mul_pos hw ha
  unfold szC
  rw [if_neg (by omega), Int.mul_zero]
  rcases cmpI_cases 0 (w * a) with h' | h' | h' <;> omega
theorem szC_both {v w : Int} : szC v 0 w 0 = cmpI v w := by simp [szC]
theorem szC_prod {v a w b : Int} (ha : 0 < a) (hb : 0 < b) : szC v a w b = cmpI (v * b) (w * a) := by unfold szC; rw [if_neg (by omega)]

set_option maxRecDepth 100000 in
set_option maxHeartbeats 4000000 in
theorem rcompare_any (kind v k u l : Int) (w : World) (h : okK kind = true) (v1 : 1 ≤ v) (v2 : v ≤ 1000000) (u1 : 1 ≤ u) (u2 : u ≤ 1000000) (k0 : 0 ≤ k) (k1 : k ≤ 1001) (l0 : 0 ≤ l) (l1 : l ≤ 1001) :
  Calls Try.prog 93 #[.int .i64 kind, .int .i64 v, .int .i64 k, .int .i64 u, .int .i64 l] w fun en w' => w = w' ∧ en = .returned (.int .i64 (szC v (stepV kind k) u (stepV kind l))) := by
  have HA := hid (fun w => rstep_any kind k w h k0 k1)
  have HB := hid (fun w => rstep_any kind l w h l0 l1)
  have ba := stepV_bd (kind := kind) k0 k1
  have bb := stepV_bd (kind := kind) l0 l1
  generalize stepV kind k = a at *
  generalize stepV kind l = b at *
  obtain ⟨p1, p2⟩ := prod_bd v1 v2 bb.1 (by omega)
  obtain ⟨p3, p4⟩ := prod_bd u1 u2 ba.1 (by omega)
  clear h
  by_cases ha : a = 0
  · by_cases hb : b = 0
    · subst ha hb
      have HC := hid (show szC v 0 u 0 = cmpI v u from szC_both)
      have HR := hid (cmpI_cases v u)
      clear p1 p2 p3 p4
      rcases HR.out with ⟨h1, h2⟩ | ⟨h1, h2⟩ | ⟨h1, h2⟩
      · have H2 := hid h2
        clear h2
        go_enter Try.func93, Try.ntmps93
        go_wp2_with fail
        refine (HA.out _).mono ?_
        rintro e w' ⟨rfl, rfl⟩
        go_wp2_with fail
        refine (HB.out _).mono ?_
        rintro e w' ⟨rfl, rfl⟩
        go_wp2
        go_ret
        exact ⟨rfl, ret_int (by rw [HC.out, H2.out])⟩
      · have H2 := hid h2
        have h1' : ¬ v < u := by omega
        clear h2
        go_enter Try.func93, Try.ntmps93
        go_wp2_with fail
        refine (HA.out _).mono ?_
        rintro e w' ⟨rfl, rfl⟩
        go_wp2_with fail
        refine (HB.out _).mono ?_
        rintro e w' ⟨rfl, rfl⟩
        go_wp2
        go_ret
        exact ⟨rfl, ret_int (by rw [HC.out, H2.out])⟩
      · have H2 := hid h2
        subst h1
        clear h2
        go_enter Try.func93, Try.ntmps93
        go_wp2_with fail
        refine (HA.out _).mono ?_
        rintro e w' ⟨rfl, rfl⟩
        go_wp2_with fail
        refine (HB.out _).mono ?_
        rintro e w' ⟨rfl, rfl⟩
        go_wp2
        go_ret
        exact ⟨rfl, ret_int (by rw [HC.out, H2.out])⟩
    · have hb' : 0 < b := by omega
      have HC := hid (szC_inf (w := u) ha hb' (by omega : 0 < v))
      subst ha
      clear p1 p2 p3 p4 hb
      go_enter Try.func93, Try.ntmps93
      go_wp2_with fail
      refine (HA.out _).mono ?_
      rintro e w' ⟨rfl, rfl⟩
      go_wp2_with fail
      refine (HB.out _).mono ?_
      rintro e w' ⟨rfl, rfl⟩
      go_wp2
      go_ret
      exact ⟨rfl, ret_int (by rw [HC.out])⟩
  · have ha' : 0 < a := by omega
    have ha0 : (a == 0) = false := by simp [ha]
    clear ha
    by_cases hb : b = 0
    · have HC := hid (szC_fin (v := v) hb ha' (by omega : 0 < u))
      subst hb
      clear p1 p2 p3 p4
      go_enter Try.func93, Try.ntmps93
      go_wp2_with fail
      refine (HA.out _).mono ?_
      rintro e w' ⟨rfl, rfl⟩
      go_wp2_with fail
      refine (HB.out _).mono ?_
      rintro e w' ⟨rfl, rfl⟩
      go_wp2
      go_ret
      exact ⟨rfl, ret_int (by rw [HC.out])⟩
    · have hb' : 0 < b := by omega
      have hb0 : (b == 0) = false := by simp [hb]
      have HC := hid (szC_prod (v := v) (w := u) ha' hb')
      have HR := hid (cmpI_cases (v * b) (u * a))
      clear hb
      rcases HR.out with ⟨h1, h2⟩ | ⟨h1, h2⟩ | ⟨h1, h2⟩
      · have H2 := hid h2
        clear h2
        go_enter Try.func93, Try.ntmps93
        go_wp2_with fail
        refine (HA.out _).mono ?_
        rintro e w' ⟨rfl, rfl⟩
        go_wp2_with fail
        refine (HB.out _).mono ?_
        rintro e w' ⟨rfl, rfl⟩
        go_wp2
        go_ret
        exact ⟨rfl, ret_int (by rw [HC.out, H2.out])⟩
      · have H2 := hid h2
        have h1' : ¬ v * b < u * a := by omega
        clear h2
        go_enter Try.func93, Try.ntmps93
        go_wp2_with fail
        refine (HA.out _).mono ?_
        rintro e w' ⟨rfl, rfl⟩
        go_wp2_with fail
        refine (HB.out _).mono ?_
        rintro e w' ⟨rfl, rfl⟩
        go_wp2
        go_ret
        exact ⟨rfl, ret_int (by rw [HC.out, H2.out])⟩
      · have H2 := hid h2
        have h1' : ¬ v * b < u * a := by omega
        have h1'' : ¬ u * a < v * b := by omega
        clear h2 h1
        go_enter Try.func93, Try.ntmps93
        go_wp2_with fail
        refine (HA.out _).mono ?_
        rintro e w' ⟨rfl, rfl⟩
        go_wp2_with fail
        refine (HB.out _).mono ?_
        rintro e w' ⟨rfl, rfl⟩
        go_wp2
        go_ret
        exact ⟨rfl, ret_int (by rw [HC.out, H2.out])⟩

set_option maxRecDepth 100000 in
set_option maxHeartbeats 4000000 in
theorem rclaimer_any (kind : Int) (oa ma : Option Addr) (os ms : List Int) (oc mc : Nat) (w : World) (ho : Ints w oa os) (hm : Ints w ma ms) (go : okO os = true) (gm : okMs os ms = true) (gk : okK kind = true) :
  Calls Try.prog 83 #[.slice oa os.length oc, .slice ma ms.length mc, .int .i64 kind] w (IntR w (bestL kind os ms)) := by
  obtain ⟨g1, g2, g3⟩ := okO_len go
  obtain ⟨g4, g5⟩ := okMs_len gm
  have HOb := hid (fun k hk => allIn_at g3 k hk)
  have HMb := hid (fun k hk => allIn_at g5 k hk)
  have HK := hid gk
  have g4a : ms.length ≤ os.length := by omega
  have g4b : os.length ≤ ms.length := by omega
  have HO := hid ho
  have HM := hid hm
  clear g4 go gm gk g3 g5 ho hm
  go_enter Try.func83, Try.ntmps83
  go_wp2
  go_loopw [7, 8] (fun b i wr => ∃ (j m : Nat), 1 ≤ j ∧ j ≤ os.length ∧ i = .int .i64 (j : Int) ∧ m + 1 ≤ j ∧ b = .int .i64 (m : Int) ∧ Hid (bestTo kind os ms (j - 1) = m) ∧ Below w.heap.size w wr) (fun _ i _ => os.length - (intOf i).toNat)
  case atStart => exact ⟨1, 0, by omega, by omega, rfl, by omega, rfl, rfl, Below.refl _ _⟩
  case round =>
    obtain ⟨j, m, hj1, hj, rfl, hmj, rfl, HT, hB⟩ := hrel
    by_cases hlt : j < os.length
    · rcases HO.out.at_ with e | ⟨b, off, rfl, hc⟩
      · rw [e] at hlt; simp at hlt
      rcases HM.out.at_ with e | ⟨bm, om, rfl, hcm⟩
      · rw [e, List.length_nil] at g4b; omega
      have HN := hid (show bestTo kind os ms (j + 1 - 1) = if 0 < szC (at0 os j) (stepV kind (at0 ms j)) (at0 os m) (stepV kind (at0 ms m)) then j else m by
        obtain ⟨q, rfl⟩ : ∃ q, j = q + 1 := ⟨j - 1, by omega⟩
        have hT := HT.out
        rw [Nat.add_sub_cancel] at hT ⊢
        rw [bestTo, hT])
      have d0 := hc j hlt
      have d1 := hcm j (by omega)
      have d2 := hc m (by omega)
      have d3 := hcm m (by omega)
      have b0 := HOb.out j hlt
      have b1 := HMb.out j (by omega)
      have b2 := HOb.out m (by omega)
      have b3 := HMb.out m (by omega)
      clear hc hcm
      have c0 : wr.cell? ⟨b, off + j, none⟩ = some (.int .i64 (os[j]?.getD 0)) := by rw [hB.cell (cell_lt d0)]; exact d0
      have c1 : wr.cell? ⟨bm, om + j, none⟩ = some (.int .i64 (ms[j]?.getD 0)) := by rw [hB.cell (cell_lt d1)]; exact d1
      have c2 : wr.cell? ⟨b, off + m, none⟩ = some (.int .i64 (os[m]?.getD 0)) := by rw [hB.cell (cell_lt d2)]; exact d2
      have c3 : wr.cell? ⟨bm, om + m, none⟩ = some (.int .i64 (ms[m]?.getD 0)) := by rw [hB.cell (cell_lt d3)]; exact d3
      clear d0 d1 d2 d3
      unfold at0 at HN
      generalize os[j]?.getD 0 = v at *
      generalize ms[j]?.getD 0 = k at *
      generalize os[m]?.getD 0 = u at *
      generalize ms[m]?.getD 0 = l at *
      have HC := hid (fun w => rcompare_any kind v k u l w HK.out b0.1 b0.2 b2.1 b2.2 b1.1 (by omega) b3.1 (by omega))
      generalize szC v (stepV kind k) u (stepV kind l) = z at *
      have hj0 : (0 : Int) ≤ (j : Int) := Int.natCast_nonneg _
      have hj2 : (j : Int) < (os.length : Int) := by omega
      have hj3 : (j : Int) < (ms.length : Int) := by omega
      have hm0 : (0 : Int) ≤ (m : Int) := Int.natCast_nonneg _
      have hm2 : (m : Int) < (os.length : Int) := by omega
      have hm3 : (m : Int) < (ms.length : Int) := by omega
      by_cases hz : 0 < z
      · have HX := hid hz
        go_wp2_with fail
        go_quiet ((go_at_call 93; exact Calls.quiet_of_same ((HC.out _).mono fun _ _ h => ⟨h.2, h.1.symm⟩)))
        have q : Below w.heap.size w (wr.drewN nq) := below_dn hB _
        go_wp2
        go_roundw
        case rel => exact ⟨j + 1, j, by omega, by omega, by go_num, by omega, rfl, by unfold Hid; rw [HN.out, if_pos (by have := HX.out; omega)], q⟩
        case measure => simp [intOf]; omega
      · have HX := hid hz
        have hz' : z ≤ 0 := by omega
        clear hz
        go_wp2_with fail
        go_quiet ((go_at_call 93; exact Calls.quiet_of_same ((HC.out _).mono fun _ _ h => ⟨h.2, h.1.symm⟩)))
        have q : Below w.heap.size w (wr.drewN nq) := below_dn hB _
        go_wp2
        go_roundw
        case rel => exact ⟨j + 1, m, by omega, by omega, by go_num, by omega, rfl, by unfold Hid; rw [HN.out, if_neg (by have := HX.out; omega)], q⟩
        case measure => simp [intOf]; omega
    · obtain rfl : j = os.length := by omega
      have HE := hid (show (m : Int) = (bestL kind os ms : Int) by rw [bestL, HT.out])
      go_wp2
      go_ret
      exact ⟨hB, ret_int HE.out⟩
end Go.Proofs.Ytnjaacmcdkiilaa
