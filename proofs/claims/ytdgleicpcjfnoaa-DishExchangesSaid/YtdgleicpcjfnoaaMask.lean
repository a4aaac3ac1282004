/- The type mask of package dish: has, with, maskOf, hasAll. -/
import Derived.Test.YtdgleicpcjfnoaaRes
import Derived.Test.YtdgleicpcjfnoaaProofN
import Derived.Laws.BitsAllLaws
import Derived.Laws.BitsLemmas
import Derived.Laws.Shifts
set_option linter.unusedVariables false
namespace Go.Proofs.Ytdgleicpcjfnoaa
open Go.RowKit

theorem i64_nat (a : Nat) (ha : a < 9223372036854775808) : (BitVec.ofInt 64 (a : Int)).toNat = a := by
  rw [BitVec.ofInt_natCast, BitVec.toNat_ofNat]; exact Nat.mod_eq_of_lt (by omega)
theorem i64_and_n (a b : Nat) (ha : a < 9223372036854775808) (hb : b < 9223372036854775808) : bits .and .i64 (a : Int) (b : Int) = ((a &&& b : Nat) : Int) := by
  have hx : a &&& b < 2 ^ 63 := Nat.and_lt_two_pow _ (by omega)
  show IntKind.i64.wrap ((BitVec.ofInt 64 (a : Int) &&& BitVec.ofInt 64 (b : Int)).toNat : Int) = _
  rw [BitVec.toNat_and, i64_nat a ha, i64_nat b hb, IntKind.wrap_i64]
  omega
theorem i64_or_n (a b : Nat) (ha : a < 9223372036854775808) (hb : b < 9223372036854775808) : bits .or .i64 (a : Int) (b : Int) = ((a ||| b : Nat) : Int) := by
  have hx : a ||| b < 2 ^ 63 := Nat.or_lt_two_pow (by omega) (by omega)
  show IntKind.i64.wrap ((BitVec.ofInt 64 (a : Int) ||| BitVec.ofInt 64 (b : Int)).toNat : Int) = _
  rw [BitVec.toNat_or, i64_nat a ha, i64_nat b hb, IntKind.wrap_i64]
  omega
theorem i64_andNot_n (a b : Nat) (ha : a < 9223372036854775808) (hb : b < 9223372036854775808) : bits .andNot .i64 (a : Int) (b : Int) = ((a &&& (2 ^ 64 - 1 - b) : Nat) : Int) := by
  have hx : a &&& (2 ^ 64 - 1 - b) < 2 ^ 63 := by rw [Nat.and_comm]; exact Nat.and_lt_two_pow _ (by omega)
  show IntKind.i64.wrap ((BitVec.ofInt 64 (a : Int) &&& ~~~BitVec.ofInt 64 (b : Int)).toNat : Int) = _
  rw [BitVec.toNat_and, BitVec.toNat_not, i64_nat a ha, i64_nat b hb, IntKind.wrap_i64]
  omega
theorem has_bits (M x : Nat) (hM : M < 18446744073709551616) : (bits .and .u64 ((M : Int) / 2 ^ x) 1 == 1) = M.testBit x := by
  have e : ((M : Int) / 2 ^ x) = ((M / 2 ^ x : Nat) : Int) := by simp
  rw [e, show (1 : Int) = ((1 : Nat) : Int) from rfl, u64_and_nat _ _ (Nat.lt_of_le_of_lt (Nat.div_le_self _ _) hM) (by decide), Nat.and_one_is_mod]
  exact bit_test M x
theorem with_bits (M x : Nat) (hM : M < 18446744073709551616) (hx : x < 64) : bits .or .u64 (M : Int) (IntKind.u64.wrap (2 ^ x)) = ((M ||| 2 ^ x : Nat) : Int) := by
  have h2 := two_pow_lt hx
  have e : IntKind.u64.wrap (2 ^ x) = ((2 ^ x : Nat) : Int) := by
    have : ((2 : Int) ^ x) = ((2 ^ x : Nat) : Int) := by simp
    rw [IntKind.wrap_u64, this]
    generalize 2 ^ x = p at *
    omega
  rw [e, u64_or_nat _ _ hM (by omega)]

set_option maxHeartbeats 1000000 in
theorem has_mask (M x : Nat) (w : World) (hM : M < 18446744073709551616) (hx : x < 64) :
  Calls Try.prog 74 #[.int .u64 M, .int .i64 x] w fun en w' => w = w' ∧ en = .returned (.bool (M.testBit x)) := by
  go_enter Try.func74, Try.ntmps74
  go_wp2
  go_ret
  exact ⟨rfl, ret_bool (has_bits M x hM)⟩
set_option maxHeartbeats 1000000 in
theorem with_mask (M x : Nat) (w : World) (hM : M < 18446744073709551616) (hx : x < 64) :
  Calls Try.prog 97 #[.int .u64 M, .int .i64 x] w fun en w' => w = w' ∧ en = .returned (.int .u64 ((M ||| 2 ^ x : Nat) : Int)) := by
  go_enter Try.func97, Try.ntmps97
  go_wp2
  go_ret
  exact ⟨rfl, ret_int (with_bits M x hM hx)⟩

def Small (n : Int) (xs : List Int) : Prop := ∀ x ∈ xs, 0 ≤ x ∧ x < n
theorem Small.take_lt {xs : List Int} (h : Small 64 xs) (k : Nat) : maskL (xs.take k) < 18446744073709551616 :=
  maskL_lt 64 _ (fun x hx => by have := h x (List.mem_of_mem_take hx); omega)

set_option maxRecDepth 100000 in
set_option maxHeartbeats 1000000 in
theorem maskOf_any (a : Option Addr) (xs : List Int) (cap : Nat) (w : World) (h : Ints w a xs) (hs : Small 64 xs) :
  Calls Try.prog 62 #[.slice a xs.length cap] w fun en w' => w = w' ∧ en = .returned (.int .u64 (maskL xs)) := by
  have hlen := h.len
  have HS := hid hs
  have HH := hid h
  clear hs h
  go_enter Try.func62, Try.ntmps62
  go_wp2
  go_loop [3, 8] (fun m i => ∃ k : Nat, k ≤ xs.length ∧ i = .int .i64 k ∧ m = .int .u64 (maskL (xs.take k))) (fun _ i => xs.length - (intOf i).toNat)
  case atStart => exact ⟨0, Nat.zero_le _, rfl, rfl⟩
  case round =>
    obtain ⟨k, hk, rfl, rfl⟩ := hrel
    by_cases hlt : k < xs.length
    · rcases HH.out.at_ with e | ⟨b, off, rfl, hc⟩
      · rw [e] at hlt; simp at hlt
      have c0 := hc k hlt
      have hx := HS.out _ (getD_mem xs k hlt)
      have HT := hid (maskL_take xs k hlt)
      have hm := HS.out.take_lt k
      clear hc
      generalize xs[k]?.getD 0 = x at *
      generalize maskL (xs.take k) = M at *
      obtain ⟨n, rfl⟩ := Int.eq_ofNat_of_zero_le hx.1
      go_wp2_with fail
      refine (with_mask M n _ hm (by omega)).mono ?_
      rintro e w' ⟨rfl, rfl⟩
      go_wp2
      go_round
      case rel => exact ⟨k + 1, by omega, by go_num, by rw [HT.out]; rfl⟩
      case measure => simp [intOf]; omega
    · obtain rfl : k = xs.length := by omega
      rw [List.take_length]
      go_wp2
      go_ret
      exact ⟨rfl, rfl⟩

def subB (xs : List Int) (M : Nat) : Bool := decide (maskL xs &&& (2 ^ 64 - 1 - M) = 0)
theorem subB_iff (xs : List Int) (M : Nat) (hs : Small 64 xs) (hM : M < 18446744073709551616) : subB xs M = true ↔ ∀ x ∈ xs, M.testBit x.toNat = true := by
  have hm := maskL_lt 64 xs (fun x hx => by have := hs x hx; omega)
  rw [subB, decide_eq_true_iff, andNot_zero _ M 64 hm hM]
  constructor
  · intro h x hx
    exact h _ (by rw [testBit_maskL]; simp; exact ⟨x, hx, rfl⟩)
  · intro h i hi
    rw [testBit_maskL] at hi
    simp at hi
    obtain ⟨x, hx, rfl⟩ := hi
    exact h x hx
theorem hasAll_bits (A M : Nat) (hA : A < 18446744073709551616) (hM : M < 18446744073709551616) : (bits .andNot .u64 (A : Int) (M : Int) == 0) = decide (A &&& (2 ^ 64 - 1 - M) = 0) := by
  rw [u64_andNot_nat A M hA hM]
  show decide _ = _
  rw [decide_eq_decide, show (2 : Nat) ^ 64 - 1 - M = 18446744073709551615 - M from rfl]
  omega
set_option maxHeartbeats 1000000 in
theorem hasAll_mask (M : Nat) (a : Option Addr) (xs : List Int) (cap : Nat) (w : World) (h : Ints w a xs) (hs : Small 64 xs) (hM : M < 18446744073709551616) :
  Calls Try.prog 100 #[.int .u64 M, .slice a xs.length cap] w fun en w' => w = w' ∧ en = .returned (.bool (subB xs M)) := by
  have hm := maskL_lt 64 xs (fun x hx => by have := hs x hx; omega)
  go_enter Try.func100, Try.ntmps100
  go_wp2_with fail
  refine (maskOf_any _ _ _ _ h hs).mono ?_
  rintro e w' ⟨rfl, rfl⟩
  go_wp2
  go_ret
  exact ⟨rfl, ret_bool (hasAll_bits _ _ hm hM)⟩

end Go.Proofs.Ytdgleicpcjfnoaa
