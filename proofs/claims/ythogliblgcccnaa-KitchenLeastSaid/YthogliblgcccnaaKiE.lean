/- The document's own tests of batches and of an order. -/
import Derived.Test.YthogliblgcccnaaKiD
set_option linter.unusedVariables false
namespace Go.Proofs.Ythogliblgcccnaa
open Go.RowKit

set_option maxHeartbeats 400000 in
theorem krWit_any (n lo hi : Int) (w : World) : Calls Try.prog 59 #[.int .i64 n, .int .i64 lo, .int .i64 hi] w (SaysK w (zin n lo hi)) := by
  by_cases h1 : lo ≤ n
  · by_cases h2 : n ≤ hi
    · rw [show zin n lo hi = true by simp [zin, h1, h2]]
      go_enter Try.func59, Try.ntmps59
      go_wp2
      go_ret
      exact ⟨rfl, ret_bool (by simp)⟩
    · rw [show zin n lo hi = false by simp [zin, h2]]
      have h2' : hi < n := by omega
      clear h2
      go_enter Try.func59, Try.ntmps59
      go_wp2
      go_ret
      exact ⟨rfl, ret_bool (by simp; omega)⟩
  · rw [show zin n lo hi = false by simp [zin, h1]]
    have h1' : n < lo := by omega
    clear h1
    go_enter Try.func59, Try.ntmps59
    go_wp2
    go_ret
    exact ⟨rfl, rfl⟩
set_option maxRecDepth 100000 in
set_option maxHeartbeats 1000000 in
theorem krValidate_any (a : Option Addr) (l : List Bt) (cap : Nat) (w : World) (h : Bts w a l) : Calls Try.prog 26 #[.slice a l.length cap] w (NumK w (valE l)) := by
  have hlen := h.len
  by_cases h0 : 7 < l.length
  · have HS := hid (show valE l = 4 by unfold valE; rw [if_pos h0])
    have h0' : (7 : Int) < (l.length : Int) := by omega
    clear h
    go_enter Try.func26, Try.ntmps26
    go_wp2
    go_ret
    exact ⟨rfl, ret_int (by rw [HS.out])⟩
  · have HS := hid (show valE l = if allOkB l = true then 0 else 1 by unfold valE; rw [if_neg h0])
    have h0' : (l.length : Int) ≤ 7 := by omega
    have HH := hid h
    clear h0 h
    go_enter Try.func26, Try.ntmps26
    go_wp2
    go_loop [3] (fun i => ∃ (k : Nat), k ≤ l.length ∧ i = .int .i64 k ∧ Hid (allOkB l = allOkB (l.drop k))) (fun i => l.length - (intOf i).toNat)
    case atStart => exact ⟨0, Nat.zero_le _, rfl, rfl⟩
    case round =>
      obtain ⟨k, hk, rfl, HT⟩ := hrel
      by_cases hlt : k < l.length
      · rcases HH.out.at_ with e | ⟨b, off, rfl, hc⟩
        · rw [e] at hlt; simp at hlt
        obtain ⟨c0, c1⟩ := hc k hlt
        have HD := hid (allOkB_drop l k hlt)
        have HO := hid (show okBt (btAt l k) = (zin (btAt l k).1 0 1000 && zin (btAt l k).2 0 1000) from rfl)
        clear hc
        generalize btAt l k = x at *
        have HA1 := hid (krWit_any x.1 0 1000)
        have HA2 := hid (krWit_any x.2 0 1000)
        cases h1 : zin x.1 0 1000 with
        | false =>
          rw [h1] at HA1
          have HN := hid (show valE l = 1 by rw [HS.out, HT.out, HD.out, HO.out, h1]; simp)
          clear h1 HD HO HT
          go_wp2_with fail
          refine (HA1.out _).mono ?_
          rintro e w1 ⟨rfl, rfl⟩
          go_wp2
          go_ret
          exact ⟨rfl, ret_int (by rw [HN.out])⟩
        | true =>
          rw [h1] at HA1
          cases h2 : zin x.2 0 1000 with
          | false =>
            rw [h2] at HA2
            have HN := hid (show valE l = 1 by rw [HS.out, HT.out, HD.out, HO.out, h1, h2]; simp)
            clear h1 h2 HD HO HT
            go_wp2_with fail
            refine (HA1.out _).mono ?_
            rintro e w1 ⟨rfl, rfl⟩
            go_wp2_with fail
            refine (HA2.out _).mono ?_
            rintro e w1 ⟨rfl, rfl⟩
            go_wp2
            go_ret
            exact ⟨rfl, ret_int (by rw [HN.out])⟩
          | true =>
            rw [h2] at HA2
            have HN := hid (show allOkB l = allOkB (l.drop (k + 1)) by rw [HT.out, HD.out, HO.out, h1, h2]; simp)
            clear h1 h2 HD HO HT
            go_wp2_with fail
            refine (HA1.out _).mono ?_
            rintro e w1 ⟨rfl, rfl⟩
            go_wp2_with fail
            refine (HA2.out _).mono ?_
            rintro e w1 ⟨rfl, rfl⟩
            go_wp2
            go_round
            case rel => exact ⟨k + 1, by omega, by go_num, HN⟩
            case measure => simp [intOf]; omega
      · have HN := hid (show valE l = 0 by rw [HS.out, HT.out, List.drop_of_length_le (by omega)]; rfl)
        go_wp2
        go_ret
        exact ⟨rfl, ret_int (by rw [HN.out])⟩
/-- How often a number is among the first k. -/
def cntK (o : List Int) (v : Int) : Nat → Nat
  | 0 => 0
  | k + 1 => cntK o v k + if oAt o k = v then 1 else 0
theorem cntK_take (o : List Int) (v : Int) (k : Nat) (h : k ≤ o.length) : cntK o v k = (o.take k).count v := by
  induction k with
  | zero => simp [cntK]
  | succ k ih =>
    rw [cntK, ih (by omega), take_o o k (by omega), List.count_append]
    congr 1
    by_cases e : oAt o k = v <;> simp [e]
theorem cntK_end (o : List Int) (v : Int) : cntK o v o.length = o.count v := by
  rw [cntK_take o v _ (Nat.le_refl _), List.take_length]
theorem cntK_le (o : List Int) (v : Int) (k : Nat) : cntK o v k ≤ k := by
  induction k with
  | zero => simp [cntK]
  | succ k ih => simp only [cntK]; split <;> omega
theorem ord_counts (o : List Int) (n : Nat) (hl : o.length = n) (h : ∀ v : Nat, v < n → cntK o v o.length = 1) : ordB o n = true :=
  (ordB_iff o n).2 ((count_ord o n hl).2 (fun v hv => by rw [← cntK_end]; exact h v hv))
theorem ord_bad (o : List Int) (n v : Nat) (hv : v < n) (h : cntK o v o.length ≠ 1) : ordB o n = false := by
  rw [Bool.eq_false_iff]
  intro e
  have h1 := (ordB_iff o n).1 e
  rw [cntK_end] at h
  exact h ((count_ord o n h1.len).1 h1 v hv)
theorem ord_len (o : List Int) (n : Nat) (h : ¬ o.length = n) : ordB o n = false := by
  rw [Bool.eq_false_iff]
  intro e
  exact h ((ordB_iff o n).1 e).len
set_option maxRecDepth 100000 in
set_option maxHeartbeats 2000000 in
theorem krOrdered_any (a A : Option Addr) (l : List Bt) (o : List Int) (cap oc : Nat) (w : World) (h : Bts w a l) (ho : Ints w A o) : Calls Try.prog 54 #[.slice a l.length cap, .slice A o.length oc] w (NumK w (chkE l o)) := by
  have hlen := h.len
  have holen := ho.len
  have HV := hid (krValidate_any a l cap w h)
  have HE := hid (show chkE l o = if valE l = 0 then (if ordB o l.length = true then 0 else 1) else valE l from rfl)
  by_cases h0 : valE l = 0
  · have HE2 := hid ((HE.out).trans (if_pos h0))
    have hl7 := (valE_ok h0).len
    rw [h0] at HV
    have HH := hid ho
    clear h ho h0 HE
    by_cases hlo : o.length = l.length
    · have h1 : (o.length : Int) ≤ (l.length : Int) := by omega
      have h2 : (l.length : Int) ≤ (o.length : Int) := by omega
      have h3 : ((o.length : Int) != (l.length : Int)) = false := by simp; omega
      have HC := hid (fun h => ord_counts o l.length hlo h)
      have HB := hid (fun v hv h => ord_bad o l.length v hv h)
      have HL := hid (fun v => cntK_le o v)
      have hol7 : o.length ≤ 7 := by omega
      clear hlo
      go_enter Try.func54, Try.ntmps54
      go_wp2_with fail
      refine HV.out.mono ?_
      rintro e w1 ⟨rfl, rfl⟩
      go_wp2
      go_loop [6] (fun i => ∃ (k : Nat), k ≤ l.length ∧ i = .int .i64 k ∧ Hid (∀ v : Nat, v < k → cntK o v o.length = 1)) (fun i => l.length - (intOf i).toNat)
      case atStart => exact ⟨0, Nat.zero_le _, rfl, fun v hv => absurd hv (Nat.not_lt_zero _)⟩
      case round =>
        obtain ⟨k, hk, rfl, HT⟩ := hrel
        by_cases hlt : k < l.length
        · have hlt' : (k : Int) < (l.length : Int) := by omega
          have hd : decide (k < l.length) = true := decide_eq_true hlt
          go_wp2
          go_loop [7, 8] (fun t i => ∃ (j : Nat), j ≤ o.length ∧ i = .int .i64 j ∧ t = .int .i64 (cntK o k j : Nat)) (fun _ i => o.length - (intOf i).toNat)
          case atStart => exact ⟨0, Nat.zero_le _, rfl, rfl⟩
          case round =>
            obtain ⟨j, hj, rfl, rfl⟩ := hrel
            have hcl := HL.out (k : Int) j
            by_cases hlj : j < o.length
            · rcases HH.out.at_ with e | ⟨b, off, rfl, hc⟩
              · rw [e] at hlj; simp at hlj
              have c0 := hc j hlj
              rw [show o[j]?.getD 0 = oAt o j from rfl] at c0
              have hdj : decide (j < o.length) = true := decide_eq_true hlj
              have HS := hid (show cntK o (k : Int) (j + 1) = cntK o (k : Int) j + if oAt o j = (k : Int) then 1 else 0 from rfl)
              clear hc
              generalize cntK o (k : Int) j = c at *
              generalize oAt o j = x at *
              by_cases hx : x = (k : Int)
              · have hx' : (x == (k : Int)) = true := by simp [hx]
                have HS2 := hid ((HS.out).trans (by rw [if_pos hx]))
                clear HS hx
                go_wp2
                go_round
                case rel => exact ⟨j + 1, by omega, by go_num, by rw [HS2.out]; go_num⟩
                case measure => simp [intOf]; omega
              · have hx' : (x == (k : Int)) = false := by simp [hx]
                have HS2 := hid ((HS.out).trans (by rw [if_neg hx, Nat.add_zero]))
                clear HS hx
                go_wp2
                go_round
                case rel => exact ⟨j + 1, by omega, by go_num, by rw [HS2.out]⟩
                case measure => simp [intOf]; omega
            · obtain rfl : j = o.length := by omega
              have hdj : decide (o.length < o.length) = false := decide_eq_false (Nat.lt_irrefl _)
              have HT2 := hid (fun (h1 : cntK o (k : Int) o.length = 1) (v : Nat) (hv : v < k + 1) => show cntK o v o.length = 1 from by
                rcases Nat.lt_or_ge v k with h | h
                · exact HT.out v h
                · rw [show v = k by omega]; exact h1)
              have HB2 := hid (HB.out k hlt)
              generalize hcn : cntK o (k : Int) o.length = c at *
              have HCN := hid hcn
              clear hcn
              by_cases hc1 : c = 1
              · have HN := hid (HT2.out hc1)
                have hc1' : ((c : Int) != 1) = false := by simp [hc1]
                have hc2' : (c : Int) = 1 := by omega
                clear hc1 HT2 HB2
                go_wp2
                go_round
                case rel => exact ⟨k + 1, by omega, by go_num, HN⟩
                case measure => simp [intOf]; omega
              · have HN := hid (HB2.out hc1)
                have hc1' : ((c : Int) != 1) = true := by simp; omega
                clear hc1 HT2 HB2
                go_wp2
                go_ret
                exact ⟨rfl, by rw [HE2.out, HN.out]; rfl⟩
        · obtain rfl : k = l.length := by omega
          have hd : decide (l.length < l.length) = false := decide_eq_false (Nat.lt_irrefl _)
          have HN := hid (HC.out HT.out)
          clear HT
          go_wp2
          go_ret
          exact ⟨rfl, by rw [HE2.out, HN.out]; rfl⟩
    · have h3 : ((o.length : Int) != (l.length : Int)) = true := by simp; omega
      have HN := hid (ord_len o l.length hlo)
      clear hlo
      go_enter Try.func54, Try.ntmps54
      go_wp2_with fail
      refine HV.out.mono ?_
      rintro e w1 ⟨rfl, rfl⟩
      go_wp2
      go_ret
      exact ⟨rfl, by rw [HE2.out, HN.out]; rfl⟩
  · have HE2 := hid ((HE.out).trans (if_neg h0))
    have h1 : (valE l != 0) = true := by simp [h0]
    clear h ho h0 HE
    generalize valE l = v at *
    go_enter Try.func54, Try.ntmps54
    go_wp2_with fail
    refine HV.out.mono ?_
    rintro e w1 ⟨rfl, rfl⟩
    go_wp2
    go_ret
    exact ⟨rfl, by rw [HE2.out]; first | rfl | skip⟩
end Go.Proofs.Ythogliblgcccnaa
