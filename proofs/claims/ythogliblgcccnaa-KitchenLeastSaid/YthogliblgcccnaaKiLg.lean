/- Which lists are long: the laws of chapter 7. -/
import Derived.Test.YthogliblgcccnaaKiG
import Derived.Test.YthogliblgcccnaaKiKn
set_option linter.unusedVariables false
namespace Go.Proofs.Ythogliblgcccnaa
open Go.RowKit

def longB (n m : Nat) : Bool := decide (100 < n) || decide (100 < m)
theorem longB_no {n m : Nat} (h : longB n m = false) : n ≤ 100 ∧ m ≤ 100 := by
  simpa [longB] using h
set_option maxHeartbeats 1000000 in
theorem long7_any (a A : Option Addr) (n m cap oc : Nat) (w : World) (hn : n ≤ 9223372036854775807) (hm : m ≤ 9223372036854775807) : Calls Try.prog 17 #[.slice a n cap, .slice A m oc] w (SaysK w (longB n m)) := by
  by_cases h1 : 100 < n
  · have HR := hid (show longB n m = true by simp [longB, h1])
    have h1' : (100 : Int) < (n : Int) := by omega
    clear h1
    go_enter Try.func17, Try.ntmps17
    go_wp2
    go_ret
    exact ⟨rfl, by rw [HR.out]; rfl⟩
  · have h1' : (n : Int) ≤ 100 := by omega
    by_cases h2 : 100 < m
    · have HR := hid (show longB n m = true by simp [longB, h2])
      have h2' : (100 : Int) < (m : Int) := by omega
      clear h1 h2
      go_enter Try.func17, Try.ntmps17
      go_wp2
      go_ret
      exact ⟨rfl, by rw [HR.out]; first | rfl | (apply ret_bool; simp; omega)⟩
    · have HR := hid (show longB n m = false by simp [longB]; omega)
      have h2' : (m : Int) ≤ 100 := by omega
      clear h1 h2
      go_enter Try.func17, Try.ntmps17
      go_wp2
      go_ret
      exact ⟨rfl, by rw [HR.out]; first | rfl | (apply ret_bool; simp; omega)⟩
end Go.Proofs.Ythogliblgcccnaa
