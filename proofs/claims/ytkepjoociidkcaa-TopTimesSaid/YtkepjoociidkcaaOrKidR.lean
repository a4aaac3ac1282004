/- Which children have a meal: the document's own answer, and sameness of numbers. -/
import Derived.Test.YtkepjoociidkcaaOrKid
import Derived.Test.YtkepjoociidkcaaOrL
set_option linter.unusedVariables false
namespace Go.Proofs.Ytkepjoociidkcaa
open Go.RowKit


theorem kidE_eq (l : List Fct) (d m : Int) : kidE l d m = if askE l 0 d = 0 then (if inI m 0 9 = true then 0 else 1) else askE l 0 d := by
  unfold kidE askE chkE
  rw [show inI 0 0 99 = true from rfl, Bool.true_and]
  by_cases h : validE l = 0
  · rw [if_pos h, if_pos h]
    cases inI d 0 999 <;> cases inI m 0 9 <;> simp
  · rw [if_neg h, if_neg h, if_neg h]

theorem Ints.drew {w : World} {a : Option Addr} {s : List Int} (h : Ints w a s) (n : Nat) : Ints (w.drewN n) a s := h.below (below_drewN (Below.refl _ _) n)
set_option maxRecDepth 100000 in
set_option maxHeartbeats 2000000 in
theorem sameInts5_any (a b : Option Addr) (s : List Int) (ca cb : Nat) (w : World) (ha : Ints w a s) (hb : Ints w b s) :
  Calls Try.prog 38 #[.slice a s.length ca, .slice b s.length cb] w (fun en w' => ∃ n, w' = w.drewN n ∧ en = .returned (.bool true)) := by
  have hlen := ha.len
  have HA := hid ha
  have HB := hid hb
  clear ha hb
  go_enter Try.func38, Try.ntmps38
  go_wp2
  go_loopw [5] (fun i wr => ∃ k : Nat, k ≤ s.length ∧ i = .int .i64 k ∧ Hid (∃ n, wr = w.drewN n)) (fun i _ => s.length - (intOf i).toNat)
  case atStart => exact ⟨0, Nat.zero_le _, rfl, ⟨0, rfl⟩⟩
  case round =>
    obtain ⟨k, hk, rfl, HW⟩ := hrel
    by_cases hlt : k < s.length
    · have HA2 := hid (show Ints wr a s by obtain ⟨n, e⟩ := HW.out; rw [e]; exact HA.out.drew n)
      have HB2 := hid (show Ints wr b s by obtain ⟨n, e⟩ := HW.out; rw [e]; exact HB.out.drew n)
      rcases HA2.out.at_ with e | ⟨p, o, rfl, hc⟩
      · rw [e] at hlt; simp at hlt
      rcases HB2.out.at_ with e | ⟨q, o2, rfl, hd⟩
      · rw [e] at hlt; simp at hlt
      have c0 := hc k hlt
      have d0 := hd k hlt
      have i0 : (0 : Int) ≤ (k : Int) := by omega
      have i1 : (k : Int) < (s.length : Int) := by omega
      clear hc hd
      generalize s[k]?.getD 0 = x at *
      go_wp2
      go_quiet (fail)
      go_wp2
      go_roundw
      case rel => exact ⟨k + 1, by omega, by go_num, by obtain ⟨m, e⟩ := HW.out; exact ⟨m + nq, by rw [e, World.drewN_drewN]⟩⟩
      case measure => simp [intOf]; omega
    · go_wp2
      go_ret
      obtain ⟨n, e⟩ := HW.out
      exact ⟨n, e, rfl⟩
end Go.Proofs.Ytkepjoociidkcaa
