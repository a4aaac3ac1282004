/- Tables of the document's own answers (canteenref02): ValidateTable, feeds, Menus. -/
import Derived.Test.YtongejajkifccabTable
import Derived.Test.YtongejajkifccabTMenus
import Derived.Test.YtongejajkifccabRTableM
set_option linter.unusedVariables false
namespace Go.Proofs.Ytongejajkifccab
open Go.RowKit

theorem pow_wrap (n : Nat) (h : n ≤ 60) : wrap64 (2 ^ n) = ((2 ^ n : Nat) : Int) := by
  have hp := two_pow_lt (show n < 63 by omega)
  have : ((2 : Int) ^ n) = ((2 ^ n : Nat) : Int) := by simp
  rw [wrap64, this]
  generalize 2 ^ n = p at *
  omega

set_option maxRecDepth 100000 in
set_option maxHeartbeats 2000000 in
theorem rvalidTab_any (a : Option Addr) (rows : List Int) (cap : Nat) (d : Int) (w : World) (h : Ints w a rows) :
  Calls Try.prog 24 #[.slice a rows.length cap, .int .i64 d] w (IntR w (validTab rows d)) := by
  have hlen := h.len
  have HH := hid h
  clear h
  by_cases h0 : d < 0
  · have HR := hid (show validTab rows d = 1 by rw [validTab, if_pos (.inl h0)])
    go_enter Try.func24, Try.ntmps24
    go_wp2
    go_ret
    exact ⟨Below.refl _ _, ret_int HR.out.symm⟩
  · obtain ⟨n, rfl⟩ := Int.eq_ofNat_of_zero_le (show 0 ≤ d by omega)
    clear h0
    by_cases h1 : 8 < n
    · have HR := hid (show validTab rows n = 1 by rw [validTab, if_pos (.inr (by omega))])
      have h1' : (8 : Int) < (n : Int) := by omega
      go_enter Try.func24, Try.ntmps24
      go_wp2
      go_ret
      exact ⟨Below.refl _ _, ret_int HR.out.symm⟩
    · have h1' : (n : Int) ≤ 8 := by omega
      by_cases h2 : 8 < rows.length
      · have HR := hid (show validTab rows n = 4 by rw [validTab, if_neg (by omega), if_pos h2])
        have h2' : (8 : Int) < (rows.length : Int) := by omega
        go_enter Try.func24, Try.ntmps24
        go_wp2
        go_ret
        exact ⟨Below.refl _ _, ret_int HR.out.symm⟩
      · have HR := hid (show validTab rows n = if allChoice n rows then 0 else 1 by rw [validTab, if_neg (by omega), if_neg h2])
        have h2' : (rows.length : Int) ≤ 8 := by omega
        have HW := hid (show ∀ x : Int, choiceB x (n : Int) = decide (0 ≤ x ∧ x < IntKind.i64.wrap (2 ^ n)) from fun x => by rw [← wrap64_is, pow_wrap n (by omega), choiceB, Int.toNat_natCast])
        clear h1 h2
        go_enter Try.func24, Try.ntmps24
        go_wp2
        go_loopw [5] (fun i wr => ∃ k : Nat, k ≤ rows.length ∧ i = .int .i64 k ∧ Hid (allChoice n rows = allChoice n (rows.drop k)) ∧ Below w.heap.size w wr) (fun i _ => rows.length - (intOf i).toNat)
        case atStart => exact ⟨0, Nat.zero_le _, rfl, rfl, Below.refl _ _⟩
        case round =>
          obtain ⟨k, hk, rfl, HA, hB⟩ := hrel
          by_cases hlt : k < rows.length
          · rcases (HH.out.below hB).at_ with e | ⟨b, off, rfl, hc⟩
            · rw [e] at hlt; simp at hlt
            have c0 := hc k hlt
            have HD := hid (allChoice_drop n rows k hlt)
            clear hc
            generalize rows[k]?.getD 0 = x at *
            by_cases hx0 : x < 0
            · have HF := hid (show allChoice n rows = false by rw [HA.out, HD.out, HW.out]; simp; omega)
              go_wp2
              go_quiet (fail)
              go_wp2
              go_ret
              exact ⟨below_drewN hB _, ret_int (by rw [HR.out, HF.out]; rfl)⟩
            · have hx0' : 0 ≤ x := by omega
              by_cases hx1 : x < IntKind.i64.wrap (2 ^ n)
              · have HF := hid (show allChoice n rows = allChoice n (rows.drop (k + 1)) by rw [HA.out, HD.out, HW.out]; simp [hx0', hx1])
                have hx1' : ¬ IntKind.i64.wrap (2 ^ n) ≤ x := by omega
                clear HD HW HR HA
                go_wp2
                go_quiet (fail)
                go_wp2
                go_roundw
                case rel => exact ⟨k + 1, by omega, by go_num, HF, below_drewN hB _⟩
                case measure => simp [intOf]; omega
              · have HF := hid (show allChoice n rows = false by rw [HA.out, HD.out, HW.out]; simp [hx1])
                have hx1' : IntKind.i64.wrap (2 ^ n) ≤ x := by omega
                go_wp2
                go_quiet (fail)
                go_wp2
                go_ret
                exact ⟨below_drewN hB _, ret_int (by rw [HR.out, HF.out]; rfl)⟩
          · go_wp2
            go_ret
            exact ⟨hB, ret_int (by rw [HR.out, HA.out, List.drop_of_length_le (by omega)]; rfl)⟩

theorem shr_bit (m x : Nat) (hm : m < 256) (hx : x < 8) : (bits .and .i64 ((m : Int) / 2 ^ x) 1 = 0) ↔ m.testBit x = false := by
  have e : ((m : Int) / 2 ^ x) = ((m / 2 ^ x : Nat) : Int) := by rw [Int.natCast_ediv]; simp
  have hl : m / 2 ^ x < 9223372036854775808 := Nat.lt_of_le_of_lt (Nat.div_le_self _ _) (by omega)
  rw [e, show (1 : Int) = ((1 : Nat) : Int) from rfl, i64_and_n _ _ hl (by omega), Nat.and_one_is_mod]
  have hb : (m / 2 ^ x % 2 = 1) = (m.testBit x = true) := bit_all ⟨m, hm⟩ ⟨x, hx⟩
  generalize m / 2 ^ x = q at *
  cases h : m.testBit x with
  | true =>
    have : q % 2 = 1 := by rw [hb]; exact h
    simp [this]
  | false =>
    have : ¬ q % 2 = 1 := by rw [hb, h]; simp
    simp; omega

end Go.Proofs.Ytongejajkifccab
