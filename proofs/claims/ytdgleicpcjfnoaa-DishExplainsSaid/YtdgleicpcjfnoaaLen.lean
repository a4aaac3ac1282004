/- bits.Len by the library's contract, at this program's numbers. -/
import Derived.Test.YtdgleicpcjfnoaaBase
import Derived.Shelf.Small.Bits
set_option linter.unusedVariables false
namespace Go.Proofs.Ytdgleicpcjfnoaa
open Go.RowKit

def lenRen : Go.Shelf.Ren := ⟨fun | 125 => 98 | 128 => 111 | 129 => 112 | n => n, fun | 46 => 57 | 3 => 3 | 51 => 129 | 53 => 131 | 4 => 4 | 5 => 5 | 9 => 9 | n => n, fun | n => n⟩
theorem lenLays : Go.Proofs.Lays.n125 Try.prog lenRen := {
  mixed := by kernel_rfl
  f125 := Try.func98.trans (congrArg some (by kernel_rfl))
  f128 := Try.func111.trans (congrArg some (by kernel_rfl))
  f129 := Try.func112.trans (congrArg some (by kernel_rfl))
  t3 := Try.underlying3
  a3 := Try.isAgg3
  z3 := Try.sizeOf3
  v3 := Try.zeroValue3
  t4 := Try.underlying4
  a4 := Try.isAgg4
  z4 := Try.sizeOf4
  v4 := Try.zeroValue4
  t5 := Try.underlying5
  a5 := Try.isAgg5
  z5 := Try.sizeOf5
  v5 := Try.zeroValue5
  t9 := Try.underlying9
  a9 := Try.isAgg9
  z9 := Try.sizeOf9
  v9 := Try.zeroValue9
  t46 := Try.underlying57
  a46 := Try.isAgg57
  z46 := Try.sizeOf57
  v46 := Try.zeroValue57
  t51 := Try.underlying129
  a51 := Try.isAgg129
  z51 := Try.sizeOf129
  v51 := Try.zeroValue129
  t53 := Try.underlying131
  a53 := Try.isAgg131
  z53 := Try.sizeOf131
  v53 := Try.zeroValue131 }
theorem len_any (M : Nat) (w : World) (hM : M < 18446744073709551616) : Calls Try.prog 98 #[.int .u64 M] w fun e w' => w = w' ∧ e = .returned (.int .i64 (Lib.bitLen M)) := by
  have h := Go.Proofs.Any.bits_Len lenLays (M : Int) w (by omega) (by omega)
  rw [Int.toNat_natCast] at h
  exact h.mono fun e w' ⟨h1, h2⟩ => ⟨h2.symm, h1⟩

theorem bitLenAux_spec (k M : Nat) (h : M < 2 ^ k) : M < 2 ^ Lib.bitLenAux k M := by
  induction k generalizing M with
  | zero => simp at h; subst h; exact Nat.two_pow_pos _
  | succ k ih =>
    unfold Lib.bitLenAux
    split
    · rename_i h0; subst h0; simp
    · have := ih (M / 2) (by rw [Nat.pow_succ] at h; omega)
      rw [Nat.pow_add]
      omega
theorem lt_bitLen (M : Nat) (h : M < 18446744073709551616) : M < 2 ^ Lib.bitLen M ∧ Lib.bitLen M ≤ 64 := by
  exact ⟨bitLenAux_spec 64 M h, Lib.bitLen_le M 64 (by omega) (by omega)⟩

end Go.Proofs.Ytdgleicpcjfnoaa
