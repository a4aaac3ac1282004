/- bits of the document. -/
import Derived.Test.YtdgleicpcjfnoaaRBools
import Derived.Test.YtdgleicpcjfnoaaProofN
import Derived.Test.YtdgleicpcjfnoaaRowsI
set_option linter.unusedVariables false
namespace Go.Proofs.Ytdgleicpcjfnoaa
open Go.RowKit

theorem bits_stop {n j : Nat} (h : ¬ 0 < n / 2 ^ j) (hj : j ≤ 64) : bitsTo n j = bitsTo n 64 := by
  have h1 : n / 2 ^ j = 0 := Nat.eq_zero_of_not_pos h
  have h2 : n < 2 ^ j := by
    rcases Nat.lt_or_ge n (2 ^ j) with g | g
    · exact g
    · have := Nat.div_pos g (Nat.two_pow_pos j); omega
  exact bitsTo_P h2 hj
theorem has_bits_i (M x : Nat) (hM : M < 1073741824) : (bits .and .i64 ((M : Int) / 2 ^ x) 1 == 1) = M.testBit x := by
  have e : ((M : Int) / 2 ^ x) = ((M / 2 ^ x : Nat) : Int) := by simp
  have h1 : M / 2 ^ x ≤ M := Nat.div_le_self _ _
  rw [e, show (1 : Int) = ((1 : Nat) : Int) from rfl, i64_and_n _ _ (by omega) (by decide), Nat.and_one_is_mod]
  exact bit_test M x
set_option maxRecDepth 100000 in
set_option maxHeartbeats 2000000 in
theorem bitsR_any (n : Nat) (w : World) (hn : n < 1073741824) :
  Calls Try.prog 76 #[.int .i64 n] w (OwnRs w w.heap.size (bitsTo n 64)) := by
  obtain ⟨i0, hi, hz0, hz1, hz2⟩ := info_parts int_info
  go_enter Try.func76, Try.ntmps76
  go_wp2
  go_loopw [3, 4] (fun o i wr => ∃ j : Nat, j ≤ 31 ∧ i = .int .i64 j ∧ wr.ownsRow w.heap.size 3 1 o (bitsTo n j).length ((bitsTo n j).map (Value.int .i64)) ∧ Below w.heap.size w wr) (fun _ i _ => 31 - (intOf i).toNat)
  case atStart => exact ⟨0, Nat.zero_le _, rfl, ⟨rfl, .inl ⟨rfl, rfl⟩⟩, Below.refl _ _⟩
  case round =>
    obtain ⟨j, hj, rfl, hown, hB⟩ := hrel
    have e1 : ((n : Int) / 2 ^ j) = ((n / 2 ^ j : Nat) : Int) := by simp
    by_cases hlt : 0 < n / 2 ^ j
    · have hj31 : j < 31 := by
        rcases Nat.lt_or_ge j 31 with g | g
        · exact g
        · exfalso
          have h1 : 2 ^ 31 ≤ 2 ^ j := Nat.pow_le_pow_right (by omega) g
          have h2 : n / 2 ^ j = 0 := Nat.div_eq_of_lt (by omega)
          omega
      have hlen := bitsTo_len n j
      have hpos : 0 < (n : Int) / 2 ^ j := by rw [e1]; exact_mod_cast hlt
      have hbit := has_bits_i n j hn
      cases hb : n.testBit j with
      | true =>
        have HT := hid (show bitsTo n (j + 1) = bitsTo n j ++ [(j : Int)] by rw [bitsTo, if_pos hb])
        generalize bitsTo n j = pre at *
        rw [hb] at hbit
        clear hb e1 hlt
        go_wp2_with (at_builtin; refine wpList_append_own _ rfl _ _ 32 rfl w.heap.size 3 i0 (.int .i64 0) 1 8 Try.underlying32 hi hz0 hz1 hz2 rfl (by decide) _ _ _ rfl (hown.alloc _) ⟨wr.heap.size, 0, none⟩ 1 1 [.int .i64 (j : Int)] rfl rfl ?c1 ?c2 ?c3 ?c4 ?c5 ?_)
        case c1 => exact cell_one_new _ _ _
        case c2 => simp [Value.oneCell']
        case c3 => unfold maxLen; omega
        case c4 => omega
        case c5 => have := hB.size; simp; omega
        intro v' w4 hown2 hgrow _
        have p4 := (hB.alloc hB.size _).grown hgrow (by have := hB.size; simp; omega) (fun q hq => by have := (hown.lt q hq).1; omega)
        clear hgrow hown
        go_wp2
        go_roundw
        case rel => exact ⟨j + 1, by omega, by go_num, by rw [HT.out]; simpa using hown2, p4⟩
        case measure => simp [intOf]; omega
      | false =>
        have HT := hid (show bitsTo n (j + 1) = bitsTo n j by rw [bitsTo, if_neg (by simp [hb])]; simp)
        generalize bitsTo n j = pre at *
        rw [hb] at hbit
        clear hb e1 hlt
        go_wp2
        go_roundw
        case rel => exact ⟨j + 1, by omega, by go_num, by rw [HT.out]; exact hown, hB⟩
        case measure => simp [intOf]; omega
    · have HE := hid (bits_stop hlt (by omega))
      have hneg : ¬ 0 < (n : Int) / 2 ^ j := by rw [e1]; exact_mod_cast hlt
      rw [HE.out] at hown
      have hown' : Own wr w.heap.size u3 (bitsTo n 64) := hown
      clear hown e1 hlt HE
      obtain ⟨A, c, rfl⟩ : ∃ A c, u3 = .slice A (bitsTo n 64).length c := by
        rcases hown'.2 with ⟨hv, hn⟩ | ⟨g, c, cur, hv, _⟩
        · exact ⟨none, 0, by rw [hv, hn]⟩
        · exact ⟨_, _, hv⟩
      have HOw := hid hown'
      clear hown'
      generalize bitsTo n 64 = l at *
      go_wp2
      go_ret
      exact ⟨hB, A, c, rfl, HOw.out⟩
end Go.Proofs.Ytdgleicpcjfnoaa
