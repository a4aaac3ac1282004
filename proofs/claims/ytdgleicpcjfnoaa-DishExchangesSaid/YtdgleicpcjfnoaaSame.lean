/- The document's own comparison of two lists of int. -/
import Derived.Test.YtdgleicpcjfnoaaBase
set_option linter.unusedVariables false
namespace Go.Proofs.Ytdgleicpcjfnoaa
open Go.RowKit

theorem Ints.drewN {w : World} {a : Option Addr} {xs : List Int} (h : Ints w a xs) (n : Nat) : Ints (w.drewN n) a xs := ⟨h.len, h.at_, h.bd⟩
def sameB (xs ys : List Int) : Bool := decide (xs = ys)
theorem same_step {xs ys : List Int} (hl : xs.length = ys.length) {k : Nat} (hk : k < xs.length) (he : xs[k]?.getD 0 = ys[k]?.getD 0) (h : xs.take k = ys.take k) : xs.take (k + 1) = ys.take (k + 1) := by
  rw [List.take_succ_eq_append_getElem hk, List.take_succ_eq_append_getElem (by omega), h]
  rw [List.getElem?_eq_getElem hk, List.getElem?_eq_getElem (by omega)] at he
  simp at he
  rw [he]
theorem differ {xs ys : List Int} {k : Nat} (he : xs[k]?.getD 0 ≠ ys[k]?.getD 0) : sameB xs ys = false := by
  rw [sameB, decide_eq_false_iff_not]
  rintro rfl
  exact he rfl

set_option maxRecDepth 100000 in
set_option maxHeartbeats 1000000 in
theorem same_any (a b : Option Addr) (xs ys : List Int) (ca cb : Nat) (w : World) (hx : Ints w a xs) (hy : Ints w b ys) :
  Calls Try.prog 24 #[.slice a xs.length ca, .slice b ys.length cb] w fun en w' => (∃ n, w' = w.drewN n) ∧ en = .returned (.bool (sameB xs ys)) := by
  have h1 := hx.len
  have h2 := hy.len
  by_cases hl : xs.length = ys.length
  · have hl' : ((xs.length : Int) != (ys.length : Int)) = false := by simp; omega
    have HX := hid hx
    have HY := hid hy
    have HL := hid hl
    clear hx hy
    rw [← hl] at hl' h2 ⊢
    clear hl
    go_enter Try.func24, Try.ntmps24
    go_wp2
    go_loopw [5] (fun i wr => ∃ (k n : Nat), k ≤ xs.length ∧ i = .int .i64 k ∧ Hid (xs.take k = ys.take k) ∧ Hid (wr = w.drewN n)) (fun i _ => xs.length - (intOf i).toNat)
    case atStart => exact ⟨0, 0, Nat.zero_le _, rfl, rfl, rfl⟩
    case round =>
      obtain ⟨k, n, hk, rfl, HT, hw⟩ := hrel
      have hw' := hw.out
      subst hw'
      clear hw
      by_cases hlt : k < xs.length
      · rcases HX.out.at_ with e | ⟨bx, ox, rfl, hcx⟩
        · rw [e] at hlt; simp at hlt
        rcases HY.out.at_ with e | ⟨by_, oy, rfl, hcy⟩
        · have := HL.out; rw [e] at this; rw [this] at hlt; simp at hlt
        have c1 : w.cell? ⟨bx, ox + k, none⟩ = some (.int .i64 (xs[k]?.getD 0)) := hcx k hlt
        have c2 : w.cell? ⟨by_, oy + k, none⟩ = some (.int .i64 (ys[k]?.getD 0)) := hcy k (by have := HL.out; omega)
        clear hcx hcy
        by_cases he : xs[k]?.getD 0 = ys[k]?.getD 0
        · have HS := hid (same_step HL.out hlt he HT.out)
          have he' : (xs[k]?.getD 0 != ys[k]?.getD 0) = false := by simp [he]
          clear he HT HX HY
          generalize xs[k]?.getD 0 = x at *
          generalize ys[k]?.getD 0 = y at *
          go_wp2
          go_quiet (fail)
          go_wp2
          go_roundw
          case rel => exact ⟨k + 1, _, by omega, by go_num, HS, rfl⟩
          case measure => simp [intOf]; omega
        · have HS := hid (differ he)
          have he' : (xs[k]?.getD 0 != ys[k]?.getD 0) = true := by simp [he]
          clear he HT HX HY
          generalize xs[k]?.getD 0 = x at *
          generalize ys[k]?.getD 0 = y at *
          go_wp2
          go_quiet (fail)
          go_wp2
          go_ret
          exact ⟨⟨_, drewN_two _ _ _⟩, ret_bool HS.out.symm⟩
      · have HS := hid (show sameB xs ys = true by
          have := HT.out
          rw [List.take_of_length_le (by omega), List.take_of_length_le (by have := HL.out; omega)] at this
          rw [sameB, decide_eq_true_iff]; exact this)
        clear HT HX HY
        go_wp2
        go_ret
        exact ⟨⟨n, rfl⟩, ret_bool HS.out.symm⟩
  · have hl' : ((xs.length : Int) != (ys.length : Int)) = true := by simp; omega
    have HS := hid (show sameB xs ys = false by rw [sameB, decide_eq_false_iff_not]; rintro rfl; exact hl rfl)
    clear hl
    go_enter Try.func24, Try.ntmps24
    go_wp2
    go_ret
    exact ⟨⟨0, rfl⟩, ret_bool HS.out.symm⟩

end Go.Proofs.Ytdgleicpcjfnoaa
