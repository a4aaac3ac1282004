/- How often a meal is ordered. -/
import Derived.Test.YtcncnakpehnadaaOrKidR
set_option linter.unusedVariables false
namespace Go.Proofs.Ytcncnakpehnadaa
open Go.RowKit

def cntE (l : List Fct) (f t m : Int) : Int := chkE l (strB f t && inI m 0 9)
def ind (b : Prop) [Decidable b] : Nat := if b then 1 else 0
/-- How often one child has the meal on the first k days from f on. -/
def cntC (l : List Fct) (at_ f m c : Int) (k : Nat) : Nat := sumN (fun j => if mealK l c (f + (j : Int)) (cutL at_ l) = m then 1 else 0) k
def cntN (l : List Fct) (at_ f t m : Int) : Nat := sumN (fun c => cntC l at_ f m (c : Int) (t - f).toNat) 100
def countL (l : List Fct) (at_ f t m : Int) : Int × Int := if cntE l f t m = 0 then ((cntN l at_ f t m : Int), 0) else (0, cntE l f t m)
theorem cntC_succ (l : List Fct) (at_ f m c : Int) (k : Nat) : cntC l at_ f m c (k + 1) = cntC l at_ f m c k + if mealK l c (f + (k : Int)) (cutL at_ l) = m then 1 else 0 := rfl
theorem cntC_le (l : List Fct) (at_ f m c : Int) (k : Nat) : cntC l at_ f m c k ≤ k := by
  induction k with
  | zero => exact Nat.le_refl _
  | succ k ih => rw [cntC_succ]; split <;> omega
theorem cntE_ok {l : List Fct} {f t m : Int} (h : cntE l f t m = 0) : l.length ≤ 60 ∧ (∀ f ∈ l, factB f = true) ∧ (∀ i j, i ≤ j → j < l.length → (fAt l i).a ≤ (fAt l j).a) ∧ strB f t = true ∧ inI m 0 9 = true ∧ 0 ≤ f ∧ f ≤ t ∧ t ≤ 1000 := by
  obtain ⟨h1, h2⟩ := chkE_ok h
  obtain ⟨a, b, e⟩ := validE_ok h1
  simp at h2
  exact ⟨a, b, e, h2.1, h2.2, strB_iff.1 h2.1⟩
theorem cnt_days (l : List Fct) (at_ f t m : Int) : cntN l at_ f t m = sumN (fun j => (kidsTo (kidG l at_ (f + (j : Int))) m 100).length) (t - f).toNat := by
  unfold cntN cntC
  rw [sumN_comm]
  apply sumN_congr
  intro j _
  rw [kids_sum]
  rfl
theorem cnt_add (l : List Fct) (at_ f b t m : Int) (h1 : f ≤ b) (h2 : b ≤ t) : cntN l at_ f b m + cntN l at_ b t m = cntN l at_ f t m := by
  rw [cnt_days, cnt_days, cnt_days, show (t - f).toNat = (b - f).toNat + (t - b).toNat by omega, sumN_split]
  congr 1
  apply sumN_congr
  intro j _
  rw [show f + (((b - f).toNat + j : Nat) : Int) = b + (j : Int) by omega]

set_option maxRecDepth 100000 in
set_option maxHeartbeats 4000000 in
theorem Count_any (a : Option Addr) (l : List Fct) (cap : Nat) (at_ f t m : Int) (w : World) (hl : FactsAt w a l) (hcap : l.length ≤ cap) :
  Calls Try.prog 34 #[.slice a l.length cap, .int .i64 at_, .int .i64 f, .int .i64 t, .int .i64 m] w (KnownR w (countL l at_ f t m)) := by
  have hlen := hl.len
  have HV := hid (check_any a l cap (strB f t && inI m 0 9) w hl)
  by_cases h0 : cntE l f t m = 0
  · have HM := hid (show countL l at_ f t m = ((cntN l at_ f t m : Int), 0) from if_pos h0)
    obtain ⟨h3, h4, h5, g1, g2, b0, b1, b2⟩ := cntE_ok h0
    have HVb : Hid (Calls Try.prog 60 #[.slice a l.length cap, .bool true] w (IntR w 0)) := by
      have := HV.out
      unfold cntE at h0
      rw [h0, g1, g2] at this
      exact this
    have hcl := cutL_le at_ l
    have HL := hid hl
    have HSo := hid h5
    have HNe := hid (show cntN l at_ f t m = sumN (fun c => cntC l at_ f m (c : Int) (t - f).toNat) 100 from rfl)
    obtain ⟨D, hD⟩ : ∃ D : Nat, (t - f).toNat = D := ⟨_, rfl⟩
    rw [hD] at HNe
    have hD1 : t = f + (D : Int) := by omega
    clear hD
    have HCle := hid (fun c => cntC_le l at_ f m c D)
    clear HV
    subst hD1
    clear h0 h4 h5 hl
    go_enter Try.func34, Try.ntmps34
    go_wp2_with fail
    refine (isStretch_any _ _ _).mono ?_
    rintro e w' ⟨rfl, rfl⟩
    rw [g1]
    go_wp2_with fail
    refine (isMeal_any _ _).mono ?_
    rintro e w' ⟨rfl, rfl⟩
    rw [g2]
    go_wp2_with fail
    refine HVb.out.mono ?_
    rintro e w0 ⟨q0, rfl⟩
    go_wp2
    go_loopw [13, 29] (fun o i wr => ∃ (k S : Nat), k ≤ 100 ∧ i = .int .i64 k ∧ o = .int .i64 S ∧ S ≤ k * D ∧ Hid (S = sumN (fun c => cntC l at_ f m (c : Int) D) k) ∧ Below w.heap.size w wr) (fun _ i _ => 100 - (intOf i).toNat)
    case atStart => exact ⟨0, 0, Nat.zero_le _, rfl, rfl, Nat.zero_le _, rfl, q0⟩
    case round =>
      obtain ⟨k, S, hk, rfl, rfl, hS, HS, hB⟩ := hrel
      by_cases hlt : k < 100
      · have HW := hid (written_any a l cap at_ wr (HL.out.below hB) HSo.out hcap)
        have hSD : k * D ≤ 100 * D := Nat.mul_le_mul_right _ (by omega)
        go_wp2_with fail
        refine HW.out.mono ?_
        rintro e w2 ⟨q2, rfl⟩
        have p2 := hB.trans (q2.mono hB.size)
        have HR := hid (recordOf_any a l (cutL at_ l) (cutL at_ l) (k : Int) w2 (HL.out.below p2) hcl (by omega))
        go_wp2_with fail
        refine HR.out.mono ?_
        rintro e w3 ⟨q3, A, cc, rfl, hA⟩
        have p3 := p2.trans (q3.mono p2.size)
        have HM3 := hid (fun W (h : Below w3.heap.size w3 W) (d : Int) => by
          have := meal_any A _ cc d W (hA.below h)
          rw [mealR_rec] at this
          exact this)
        have hrl := recTo_len l (k : Int) (cutL at_ l)
        generalize (recTo l (k : Int) (cutL at_ l)).length = rn at *
        have hCk := HCle.out (k : Int)
        have HSk := hid (show sumN (fun c => cntC l at_ f m (c : Int) D) (k + 1) = sumN (fun c => cntC l at_ f m (c : Int) D) k + cntC l at_ f m (k : Int) D from rfl)
        clear hA HR HW
        go_wp2
        go_loopw [13, 16] (fun o i wr => ∃ (j T : Nat), j ≤ D ∧ i = .int .i64 (f + (j : Int)) ∧ o = .int .i64 T ∧ T ≤ S + j ∧ Hid (T = S + cntC l at_ f m (k : Int) j) ∧ Below w3.heap.size w3 wr) (fun _ i _ => (f + (D : Int) - intOf i).toNat)
        case atStart => exact ⟨0, S, Nat.zero_le _, by rw [Int.natCast_zero, Int.add_zero], rfl, Nat.le_refl _, rfl, Below.refl _ _⟩
        case round =>
          obtain ⟨j, T, hj, rfl, rfl, hT, HT, hBi⟩ := hrel
          by_cases hjl : j < D
          · have HMe := hid (HM3.out wr hBi (f + (j : Int)))
            have HCs := hid (cntC_succ l at_ f m (k : Int) j)
            have hz : wr.heap.size ≤ wr.heap.size := Nat.le_refl _
            go_wp2_with fail
            refine HMe.out.mono ?_
            rintro e w4 ⟨q4, rfl⟩
            by_cases he : mealK l (k : Int) (f + (j : Int)) (cutL at_ l) = m
            · have HX := hid ((HCs.out).trans (by rw [if_pos he]))
              have he' : (mealK l (k : Int) (f + (j : Int)) (cutL at_ l) == m) = true := by simp [he]
              clear he HCs HMe
              generalize mealK l (k : Int) (f + (j : Int)) (cutL at_ l) = y at *
              go_wp2
              go_roundw
              case rel => exact ⟨j + 1, T + 1, by omega, by go_num, by go_num, by omega, by unfold Hid; rw [HX.out, HT.out]; omega, hBi.trans (q4.mono hBi.size)⟩
              case measure => simp [intOf]; omega
            · have HX := hid ((HCs.out).trans (by rw [if_neg he]))
              have he' : (mealK l (k : Int) (f + (j : Int)) (cutL at_ l) == m) = false := by simp [he]
              clear he HCs HMe
              generalize mealK l (k : Int) (f + (j : Int)) (cutL at_ l) = y at *
              go_wp2
              go_roundw
              case rel => exact ⟨j + 1, T, by omega, by go_num, by go_num, by omega, by unfold Hid; rw [HX.out, HT.out]; omega, hBi.trans (q4.mono hBi.size)⟩
              case measure => simp [intOf]; omega
          · obtain rfl : j = D := by omega
            have hmul : (k + 1) * j = k * j + j := Nat.succ_mul _ _
            go_wp2
            go_roundw
            case rel => exact ⟨k + 1, T, by omega, by go_num, rfl, by omega, by unfold Hid; rw [HSk.out, ← HS.out, HT.out], p3.trans (hBi.mono p3.size)⟩
            case measure => simp [intOf]; omega
      · obtain rfl : k = 100 := by omega
        go_wp2
        go_ret2
        exact ⟨hB, by rw [HM.out, HNe.out, HS.out]; rfl⟩
  · have HM := hid (show countL l at_ f t m = (0, cntE l f t m) from if_neg h0)
    have h0' : (cntE l f t m != 0) = true := by simp [h0]
    have HV : Hid (Calls Try.prog 60 #[.slice a l.length cap, .bool (strB f t && inI m 0 9)] w (IntR w (cntE l f t m))) := HV.out
    clear h0 hl
    generalize cntE l f t m = x at *
    cases g1 : strB f t with
    | false =>
      rw [g1] at HV
      go_enter Try.func34, Try.ntmps34
      go_wp2_with fail
      refine (isStretch_any _ _ _).mono ?_
      rintro e w' ⟨rfl, rfl⟩
      rw [g1]
      go_wp2_with fail
      refine HV.out.mono ?_
      rintro e w1 ⟨q1, rfl⟩
      go_wp2
      go_ret2
      exact ⟨q1, by rw [HM.out]; rfl⟩
    | true =>
      rw [g1] at HV
      go_enter Try.func34, Try.ntmps34
      go_wp2_with fail
      refine (isStretch_any _ _ _).mono ?_
      rintro e w' ⟨rfl, rfl⟩
      rw [g1]
      go_wp2_with fail
      refine (isMeal_any _ _).mono ?_
      rintro e w' ⟨rfl, rfl⟩
      go_wp2_with fail
      refine HV.out.mono ?_
      rintro e w1 ⟨q1, rfl⟩
      go_wp2
      go_ret2
      exact ⟨q1, by rw [HM.out]; rfl⟩
end Go.Proofs.Ytcncnakpehnadaa
