/- The document's own reason and known. -/
import Derived.Test.YtkepjoociidkcaaOrF
set_option linter.unusedVariables false
namespace Go.Proofs.Ytkepjoociidkcaa
open Go.RowKit

theorem refTo_succ (l : List Fct) (at_ c d : Int) (k : Nat) : refTo l at_ c d (k + 1) = if (fAt l k).a ≤ at_ ∧ (fAt l k).c = c ∧ (fAt l k).f ≤ d ∧ d < (fAt l k).t then (k : Int) else refTo l at_ c d k := rfl
theorem refTo_bd (l : List Fct) (at_ c d : Int) (k : Nat) : -1 ≤ refTo l at_ c d k ∧ refTo l at_ c d k < (k : Int) := by
  induction k with
  | zero => exact ⟨Int.le_refl _, by show (-1 : Int) < 0; omega⟩
  | succ k ih => rw [refTo_succ]; split <;> omega

set_option maxRecDepth 100000 in
set_option maxHeartbeats 2000000 in
theorem rreason_any (a : Option Addr) (l : List Fct) (cap : Nat) (at_ c d : Int) (w : World) (hl : FactsAt w a l) :
  Calls Try.prog 60 #[.slice a l.length cap, .int .i64 at_, .int .i64 c, .int .i64 d] w (NumR w (refTo l at_ c d l.length)) := by
  have hlen := hl.len
  have HL := hid hl
  clear hl
  go_enter Try.func60, Try.ntmps60
  go_wp2
  go_loop [9, 10] (fun o i => ∃ k : Nat, k ≤ l.length ∧ i = .int .i64 k ∧ o = .int .i64 (refTo l at_ c d k)) (fun _ i => l.length - (intOf i).toNat)
  case atStart => exact ⟨0, Nat.zero_le _, rfl, rfl⟩
  case round =>
    obtain ⟨k, hk, rfl, rfl⟩ := hrel
    by_cases hlt : k < l.length
    · rcases HL.out.at_ with e | ⟨b, off, rfl, hc⟩
      · rw [e] at hlt; simp at hlt
      obtain ⟨c0, c1, c2, c3, c4⟩ := hc k hlt
      clear hc c4
      have HT := hid (refTo_succ l at_ c d k)
      generalize refTo l at_ c d k = r0 at *
      generalize fAt l k = x at *
      by_cases h1 : x.a ≤ at_
      · by_cases h2 : x.c = c
        · have h2' : (x.c == c) = true := by simp [h2]
          by_cases h3 : x.f ≤ d
          · by_cases h4 : d < x.t
            · have HX := hid ((HT.out).trans (if_pos ⟨h1, h2, h3, h4⟩))
              clear h2 HT
              go_wp2
              go_round
              case rel => exact ⟨k + 1, by omega, by go_num, by rw [HX.out]⟩
              case measure => simp [intOf]; omega
            · have HX := hid ((HT.out).trans (if_neg (fun h => h4 h.2.2.2)))
              have h4' : x.t ≤ d := by omega
              clear h2 HT h4
              go_wp2
              go_round
              case rel => exact ⟨k + 1, by omega, by go_num, by rw [HX.out]⟩
              case measure => simp [intOf]; omega
          · have HX := hid ((HT.out).trans (if_neg (fun h => h3 h.2.2.1)))
            have h3' : d < x.f := by omega
            clear h2 HT h3
            go_wp2
            go_round
            case rel => exact ⟨k + 1, by omega, by go_num, by rw [HX.out]⟩
            case measure => simp [intOf]; omega
        · have h2' : (x.c == c) = false := by simp [h2]
          have HX := hid ((HT.out).trans (if_neg (fun h => h2 h.2.1)))
          clear h2 HT
          go_wp2
          go_round
          case rel => exact ⟨k + 1, by omega, by go_num, by rw [HX.out]⟩
          case measure => simp [intOf]; omega
      · have h1' : at_ < x.a := by omega
        have HX := hid ((HT.out).trans (if_neg (fun h => h1 h.1)))
        clear h1 HT
        go_wp2
        go_round
        case rel => exact ⟨k + 1, by omega, by go_num, by rw [HX.out]⟩
        case measure => simp [intOf]; omega
    · obtain rfl : k = l.length := by omega
      go_wp2
      go_ret
      exact ⟨rfl, rfl⟩

set_option maxHeartbeats 1000000 in
theorem rknown_any (a : Option Addr) (l : List Fct) (cap : Nat) (at_ c d : Int) (w : World) (hl : FactsAt w a l) :
  Calls Try.prog 58 #[.slice a l.length cap, .int .i64 at_, .int .i64 c, .int .i64 d] w (NumR w (refMeal l at_ c d)) := by
  have hlen := hl.len
  have HC := hid (rreason_any a l cap at_ c d w hl)
  have HM := hid (show refMeal l at_ c d = if refTo l at_ c d l.length < 0 then 0 else (fAt l (refTo l at_ c d l.length).toNat).m from rfl)
  obtain ⟨b0, b1⟩ := refTo_bd l at_ c d l.length
  have HL := hid hl
  clear hl
  generalize refTo l at_ c d l.length = r at *
  by_cases hr : r < 0
  · have HX := hid ((HM.out).trans (if_pos hr))
    clear HM
    go_enter Try.func58, Try.ntmps58
    go_wp2_with fail
    refine HC.out.mono ?_
    rintro e w' ⟨rfl, rfl⟩
    go_wp2
    go_ret
    exact ⟨rfl, ret_int (by rw [HX.out])⟩
  · have HX := hid ((HM.out).trans (if_neg hr))
    clear HM
    obtain ⟨i, rfl⟩ := Int.eq_ofNat_of_zero_le (show 0 ≤ r by omega)
    have hi : i < l.length := by omega
    rcases HL.out.at_ with e | ⟨b, off, rfl, hc⟩
    · rw [e] at hi; simp at hi
    obtain ⟨_, _, _, _, c4⟩ := hc i hi
    have HX2 := hid (show refMeal l at_ c d = (fAt l i).m by rw [HX.out]; rfl)
    clear hc hr HX
    generalize fAt l i = x at *
    go_enter Try.func58, Try.ntmps58
    go_wp2_with fail
    refine HC.out.mono ?_
    rintro e w' ⟨rfl, rfl⟩
    go_wp2
    go_ret
    exact ⟨rfl, ret_int (by rw [HX2.out])⟩
end Go.Proofs.Ytkepjoociidkcaa
