/- The document's Closed. -/
import Derived.Test.YtdgleicpcjfnoaaSizeM
import Derived.Test.YtdgleicpcjfnoaaBitsR
import Derived.Test.YtdgleicpcjfnoaaRSets
import Derived.Test.YtdgleicpcjfnoaaRPub
set_option linter.unusedVariables false
namespace Go.Proofs.Ytdgleicpcjfnoaa
open Go.RowKit

theorem shl_C (P : Nat) (hP : P ≤ 10) : wrap64 ((2 : Int) ^ P) = ((2 ^ P : Nat) : Int) := by
  have h := Nat.pow_le_pow_right (n := 2) (by omega) hP
  have e : ((2 : Int) ^ P) = ((2 ^ P : Nat) : Int) := by simp
  have h0 : (0 : Int) ≤ ((2 ^ P : Nat) : Int) := Int.natCast_nonneg _
  rw [e]
  generalize 2 ^ P = N at *
  unfold wrap64
  omega
set_option maxRecDepth 100000 in
set_option maxHeartbeats 4000000 in
theorem rClosed_any (P : Int) (ia : Option Addr) (its : List ItemL) (ic : Nat) (ra : Option Addr) (rls : List RuleL) (rc : Nat) (w : World) (h : BookAt w P ia its ra rls) :
  Calls Try.prog 39 #[.agg #[.int .i64 P, .slice ia its.length ic, .slice ra rls.length rc]] w (ClosdR w (closdL P its rls)) := by
  have S0 := ValS.made w P (.slice ia its.length ic) (.slice ra rls.length rc)
  have hA := h.below S0.below
  have HN := hid (rvalidB_any P ia its ic ra rls rc _ hA)
  have HS0 := hid S0
  clear S0
  have HX := hid (show closdL P its rls = if validB P its rls ≠ 0 then (0, validB P its rls) else (((closN rls (2 ^ P.toNat) : Nat) : Int), 0) from rfl)
  generalize closdL P its rls = ans at *
  by_cases hz : validB P its rls = 0
  · obtain ⟨v0, v1, v2, v3, v4, v5⟩ := validB_ok hz
    obtain ⟨p, rfl⟩ := Int.eq_ofNat_of_zero_le v0
    have hp10 : p ≤ 10 := by omega
    have HA := hid (show ans = (((closN rls (2 ^ p) : Nat) : Int), 0) by rw [HX.out, if_neg (by simp [hz])]; rfl)
    have hRP := rulesP_of v5
    have HC := hid (fun (W : World) (hb : Below w.heap.size w W) (A : Option Addr) (c M : Nat) (hM : M < 2 ^ p) (hA : BoolsAt W A p M) => (closed_any ra rls rc A p M c W (h.below hb).rules hA hp10 hM (fun r hr => hRP r hr)))
    have HM := hid (fun (W : World) (A : Option Addr) (xs : List Int) (c : Nat) (hA : Ints W A xs) (hs : Small p xs) => marks_any A xs c p W hA hs (by omega))
    have HSz := hid (fun (m : Nat) (hm : m < 2 ^ p) => show ((bitsTo (closL rls m) p).length = (bitsTo m 64).length) ↔ closL rls m = m by
      have h10 : m < 2 ^ 10 := Nat.lt_of_lt_of_le hm (Nat.pow_le_pow_right (by omega) hp10)
      rw [bitsTo_P (closL_ltP hRP hp10 _ hm) (by omega)]
      exact size_closed rls (hRP.ok hp10) m 64 h10 (by omega))
    have HSm := hid (fun (m : Nat) (hm : m < 2 ^ p) => show Small p (bitsTo m 64) by
      intro x hx
      rw [mem_bitsTo] at hx
      obtain ⟨i, rfl, _, hb⟩ := hx
      have := bit_lt hm hb
      omega)
    have HMk := hid (fun (m : Nat) (hm : m < 2 ^ p) => show maskL (bitsTo m 64) = m from maskL_bitsTo m 64 (Nat.lt_of_lt_of_le hm (Nat.pow_le_pow_right (by omega) (by omega))))
    have HS := hid (shl_C p hp10)
    rw [hz] at HN
    have h210 : 2 ^ p ≤ 2 ^ 10 := Nat.pow_le_pow_right (by omega) hp10
    clear hz v0 v1 v2 v3 v4 v5 HX hA h hRP
    go_enter Try.func39, Try.ntmps39
    go_wp2_with fail
    refine HN.out.mono ?_
    rintro e w3 ⟨q3, rfl⟩
    have HS1 := hid (HS0.out.keep q3)
    clear HS0 HN q3
    obtain ⟨a0, a1, a2, _⟩ := id HS1.out
    go_upto_region 6 with (fail)
    clear a0 a1 a2
    go_loopw [5, 6] (fun nn i wr => ∃ m : Nat, m ≤ 2 ^ p ∧ nn = .int .i64 ((closN rls m : Nat) : Int) ∧ i = .int .i64 (m : Int) ∧ Hid (ValS w (p : Int) (.slice ia its.length ic) (.slice ra rls.length rc) wr)) (fun _ i _ => 2 ^ p - (intOf i).toNat)
    case atStart => exact ⟨0, Nat.zero_le _, rfl, rfl, HS1.out⟩
    case round =>
      clear HS1
      obtain ⟨m, hm, rfl, rfl, HSr⟩ := hrel
      obtain ⟨a0, a1, a2, _⟩ := id HSr.out
      have hcl := closN_le rls m
      have hsh := HS.out
      by_cases hlt : m < 2 ^ p
      · have hlt2 : (m : Int) < ((2 ^ p : Nat) : Int) := by exact_mod_cast hlt
        have hM : m < 2 ^ 10 := by omega
        have hNx := hid (show closN rls (m + 1) = closN rls m + if closL rls m = m then 1 else 0 from rfl)
        have HSz1 := hid (HSz.out m hlt)
        have HSm1 := hid (HSm.out m hlt)
        have HMk1 := hid (HMk.out m hlt)
        clear HSz HSm HMk
        generalize 2 ^ p = tp at *
        go_wp2_with fail
        refine (bitsR_any m wr (by omega)).mono ?_
        rintro e w4 ⟨q4, A, c, rfl, own4⟩
        have HS4 := hid (HSr.out.keep q4)
        obtain ⟨A', c', hv4, i4⟩ := own4.ints (by have := bitsTo_len m 64; omega) (fun x hx => by
          have := HSm1.out x hx; omega)
        cases hv4
        have HI4 := hid i4
        have hbl := bitsTo_len m 64
        have hbl2 := bitsTo_len (closL rls m) p
        generalize bitsTo m 64 = xs at *
        clear a0 a1 a2 q4 own4 i4 HSr
        generalize hcn : closN rls m = cn at *
        clear hcn hsh
        go_wp2
        go_region_held3 (fun w' => w'.cell? ⟨w.heap.size, 0, none⟩ = some (.int .i64 (p : Int)) ∧ w'.cell? ⟨w.heap.size, 1, none⟩ = some (.slice ia its.length ic) ∧ w'.cell? ⟨w.heap.size, 2, none⟩ = some (.slice ra rls.length rc) ∧ Below w.heap.size w w') (first | exact HS4.out.drew | exact HS4.out | exact ValS.keep (by assumption) (by assumption))
          (first | (go_at_call 63; refine (HM.out _ _ _ _ (by first | exact HI4.out | exact HI4.out.below (Below.refl _ _).drew) HSm1.out).mono ?_; rintro en w5 ⟨hb5, g5, c5, rfl, hB5'⟩; rw [HMk1.out] at hB5'; have hB5 := hid (hB5'.at_ (by omega)); clear hB5') | (go_at_call 59; refine (HC.out _ ?_ _ _ _ hlt (by first | exact hB5.out | exact BoolsAt.drew hB5.out)).mono ?_; (exact ValS.below (by assumption)); rintro en w6 ⟨hb6, A6, c6, rfl, hB6', _⟩; have hB6 := hid hB6'; clear hB6') | (go_at_call 56; refine (places_any _ _ _ _ _ (by first | exact hB6.out | exact BoolsAt.drew hB6.out) (by omega)).mono ?_; rintro en w7 ⟨hb7, A7, c7, rfl, _⟩))
        have hHeld : ValS w (p : Int) (.slice ia its.length ic) (.slice ra rls.length rc) w7 := by assumption
        generalize (bitsTo (closL rls m) p).length = L at *
        generalize closL rls m = cm at *
        by_cases heq : cm = m
        · have hL := HSz1.out.2 heq
          have HNx := hid (hNx.out.trans (by rw [if_pos heq]))
          have hLe : ((L : Int) == (xs.length : Int)) = true := by rw [beq_iff_eq]; omega
          clear HSz1 hNx heq hL
          go_wp2
          go_roundw
          case rel => exact ⟨m + 1, by omega, by rw [HNx.out]; go_num, by go_num, hHeld⟩
          case measure => simp [intOf]; omega
        · have hL : ¬ L = xs.length := fun e => heq (HSz1.out.1 e)
          have HNx := hid (hNx.out.trans (by rw [if_neg heq]))
          have hLe : ((L : Int) == (xs.length : Int)) = false := by rw [beq_eq_false_iff_ne]; omega
          clear HSz1 hNx heq hL
          go_wp2
          go_roundw
          case rel => exact ⟨m + 1, by omega, by rw [HNx.out]; go_num, by go_num, hHeld⟩
          case measure => simp [intOf]; omega
      · obtain rfl : m = 2 ^ p := by omega
        have HBf := hid HSr.out.below
        generalize closN rls (2 ^ p) = cn at *
        generalize 2 ^ p = tp at *
        have hge : ¬ ((tp : Int) < (tp : Int)) := by omega
        go_wp2
        refine bodyPost_ret (v := .tuple #[.int .i64 (cn : Int), .int .i64 0]) (by simp [results, Try.results39, go_sem]) rfl ⟨HBf.out, by rw [HA.out]⟩
  · have HA := hid (show ans = (0, validB P its rls) by rw [HX.out, if_pos hz])
    clear HX
    generalize validB P its rls = x at *
    have hx : (x != 0) = true := by simp [hz]
    clear hz
    go_enter Try.func39, Try.ntmps39
    go_wp2_with fail
    refine HN.out.mono ?_
    rintro e w3 ⟨q3, rfl⟩
    have HS1 := HS0.out.keep q3
    go_wp2
    refine bodyPost_ret (v := .tuple #[.int .i64 0, .int .i64 x]) (by simp [results, Try.results39, go_sem]) rfl ⟨HS1.below, by rw [HA.out]⟩
end Go.Proofs.Ytdgleicpcjfnoaa
