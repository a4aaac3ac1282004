/- The method numbers of the type mask. -/
import Derived.Test.YtdgleicpcjfnoaaBase
import Derived.Shelf.Small.Bits
import Derived.Test.YtdgleicpcjfnoaaMask
import Derived.Test.YtdgleicpcjfnoaaRowsI
/- bits.Len by the library's contract, at this program's numbers. -/
set_option linter.unusedVariables false
namespace Go.Proofs.Ytdgleicpcjfnoaa
open Go.RowKit

def lenRen : Go.Shelf.Ren := ⟨fun | 125 => 98 | 128 => 111 | 129 => 112 | n => n, fun | 46 => 57 | 3 => 3 | 51 => 129 | 53 => 131 | 4 => 4 | 5 => 5 | 9 => 9 | n => n, fun | n => n⟩
theorem lenLays : Go.Proofs.Lays.n125 Try.prog lenRen := {
  mixed := by kernel_rfl
  f125 := Try.func98.trans (congrArg some (by kernel_rfl))
  f128 := Try.func111.trans (congrArg some (by kernel_rfl))
  f129 := Try.func112.trans (congrArg some (by kernel_rfl))
  t3 := Try.underlying3
  a3 := Try.isAgg3
  z3 := Try.sizeOf3
  v3 := Try.zeroValue3
  t4 := Try.underlying4
  a4 := Try.isAgg4
  z4 := Try.sizeOf4
  v4 := Try.zeroValue4
  t5 := Try.underlying5
  a5 := Try.isAgg5
  z5 := Try.sizeOf5
  v5 := Try.zeroValue5
  t9 := Try.underlying9
  a9 := Try.isAgg9
  z9 := Try.sizeOf9
  v9 := Try.zeroValue9
  t46 := Try.underlying57
  a46 := Try.isAgg57
  z46 := Try.sizeOf57
  v46 := Try.zeroValue57
  t51 := Try.underlying129
  a51 := Try.isAgg129
  z51 := Try.sizeOf129
  v51 := Try.zeroValue129
  t53 := Try.underlying131
  a53 := Try.isAgg131
  z53 := Try.sizeOf131
  v53 := Try.zeroValue131 }
theorem len_any (M : Nat) (w : World) (hM : M < 18446744073709551616) : Calls Try.prog 98 #[.int .u64 M] w fun e w' => w = w' ∧ e = .returned (.int .i64 (Lib.bitLen M)) := by
  have h := Go.Proofs.Any.bits_Len lenLays (M : Int) w (by omega) (by omega)
  rw [Int.toNat_natCast] at h
  exact h.mono fun e w' ⟨h1, h2⟩ => ⟨h2.symm, h1⟩

theorem bitLenAux_spec (k M : Nat) (h : M < 2 ^ k) : M < 2 ^ Lib.bitLenAux k M := by
  induction k generalizing M with
  | zero => simp at h; subst h; exact Nat.two_pow_pos _
  | succ k ih =>
    unfold Lib.bitLenAux
    split
    · rename_i h0; subst h0; simp
    · have := ih (M / 2) (by rw [Nat.pow_succ] at h; omega)
      rw [Nat.pow_add]
      omega
theorem lt_bitLen (M : Nat) (h : M < 18446744073709551616) : M < 2 ^ Lib.bitLen M ∧ Lib.bitLen M ≤ 64 := by
  exact ⟨bitLenAux_spec 64 M h, Lib.bitLen_le M 64 (by omega) (by omega)⟩

end Go.Proofs.Ytdgleicpcjfnoaa
set_option linter.unusedVariables false
namespace Go.Proofs.Ytdgleicpcjfnoaa
open Go.RowKit

/-- The numbers of a set, in ascending order. -/
def numsL (M : Nat) : List Int := bitsTo M 64
theorem mem_numsL (M : Nat) (x : Int) : x ∈ numsL M ↔ ∃ i : Nat, x = i ∧ i < 64 ∧ M.testBit i = true := mem_bitsTo M 64 x
theorem numsL_small (M : Nat) : Small 64 (numsL M) := fun x hx => by
  obtain ⟨i, rfl, hi, _⟩ := (mem_numsL M x).1 hx; omega
theorem numsL_len (M : Nat) : (numsL M).length ≤ 64 := bitsTo_len M 64

def OwnRs (w : World) (base : Nat) (xs : List Int) (en : Ending) (w' : World) : Prop := Below w.heap.size w w' ∧ ∃ A c, en = .returned (.slice A xs.length c) ∧ Own w' base (.slice A xs.length c) xs

set_option maxRecDepth 100000 in
set_option maxHeartbeats 2000000 in
theorem numbers_any (M : Nat) (w : World) (hM : M < 18446744073709551616) :
  Calls Try.prog 54 #[.int .u64 M] w (OwnRs w w.heap.size (numsL M)) := by
  obtain ⟨i0, hi, hz0, hz1, hz2⟩ := info_parts int_info
  obtain ⟨hL1, hL2⟩ := lt_bitLen M hM
  have HN := hid (show bitsTo M (Lib.bitLen M) = numsL M from bitsTo_eq M _ 64 hL1 hM)
  have HLen := hid (len_any M · hM)
  clear hL1
  generalize Lib.bitLen M = n at *
  go_enter Try.func54, Try.ntmps54
  go_wp2_with fail
  refine (HLen.out _).mono ?_
  rintro e w' ⟨rfl, rfl⟩
  go_wp2
  go_loopw [3, 7] (fun o i wr => ∃ j : Nat, j ≤ n ∧ i = .int .i64 j ∧ wr.ownsRow w.heap.size 3 1 o (bitsTo M j).length ((bitsTo M j).map (Value.int .i64)) ∧ Below w.heap.size w wr) (fun _ i _ => n - (intOf i).toNat)
  case atStart => exact ⟨0, Nat.zero_le _, rfl, ⟨rfl, .inl ⟨rfl, rfl⟩⟩, Below.refl _ _⟩
  case round =>
    obtain ⟨j, hj, rfl, hown, hB⟩ := hrel
    by_cases hlt : j < n
    · have hlen := bitsTo_len M j
      cases hb : M.testBit j with
      | true =>
        have HT := hid (show bitsTo M (j + 1) = bitsTo M j ++ [(j : Int)] by rw [bitsTo, if_pos hb])
        generalize bitsTo M j = pre at *
        go_wp2_with fail
        refine (has_mask M j _ hM (by omega)).mono ?_
        rintro e w' ⟨rfl, rfl⟩
        rw [hb]
        clear hb
        go_wp2_with (at_builtin; refine wpList_append_own _ rfl _ _ 32 rfl w.heap.size 3 i0 (.int .i64 0) 1 8 Try.underlying32 hi hz0 hz1 hz2 rfl (by decide) _ _ _ rfl (hown.alloc _) ⟨wr.heap.size, 0, none⟩ 1 1 [.int .i64 (j : Int)] rfl rfl ?c1 ?c2 ?c3 ?c4 ?c5 ?_)
        case c1 => exact cell_one_new _ _ _
        case c2 => simp [Value.oneCell']
        case c3 => unfold maxLen; omega
        case c4 => omega
        case c5 => have := hB.size; simp; omega
        intro v' w4 hown2 hgrow _
        have p4 := (hB.alloc hB.size _).grown hgrow (by have := hB.size; simp; omega) (fun q hq => by have := (hown.lt q hq).1; omega)
        clear hgrow hown
        go_wp2
        go_roundw
        case rel => exact ⟨j + 1, by omega, by go_num, by rw [HT.out]; simpa using hown2, p4⟩
        case measure => simp [intOf]; omega
      | false =>
        have HT := hid (show bitsTo M (j + 1) = bitsTo M j by rw [bitsTo, if_neg (by simp [hb])]; simp)
        generalize bitsTo M j = pre at *
        go_wp2_with fail
        refine (has_mask M j _ hM (by omega)).mono ?_
        rintro e w' ⟨rfl, rfl⟩
        rw [hb]
        clear hb
        go_wp2
        go_roundw
        case rel => exact ⟨j + 1, by omega, by go_num, by rw [HT.out]; exact hown, hB⟩
        case measure => simp [intOf]; omega
    · obtain rfl : j = n := by omega
      have hown' : Own wr w.heap.size u3 (bitsTo M j) := hown
      rw [HN.out] at hown'
      clear hown
      obtain ⟨A, c, rfl⟩ : ∃ A c, u3 = .slice A (numsL M).length c := by
        rcases hown'.2 with ⟨hv, hn⟩ | ⟨g, c, cur, hv, _⟩
        · exact ⟨none, 0, by rw [hv, hn]⟩
        · exact ⟨_, _, hv⟩
      go_wp2
      go_ret
      exact ⟨hB, A, c, rfl, hown'⟩

end Go.Proofs.Ytdgleicpcjfnoaa
