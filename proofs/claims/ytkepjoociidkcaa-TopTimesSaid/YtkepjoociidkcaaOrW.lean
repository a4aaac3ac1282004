/- The document's own tests of sameness, of lists of facts and of spans. -/
import Derived.Test.YtkepjoociidkcaaOrS
set_option linter.unusedVariables false
namespace Go.Proofs.Ytkepjoociidkcaa
open Go.RowKit

theorem sAt_ext {s t : List Spn} (h : s.length = t.length) (e : ∀ i, i < s.length → sAt s i = sAt t i) : s = t := by
  apply List.ext_getElem? 
  intro i
  rcases Nat.lt_or_ge i s.length with h1 | h1
  · have := e i h1
    unfold sAt at this
    rw [List.getElem?_eq_getElem h1, List.getElem?_eq_getElem (by omega)] at this ⊢
    simpa using this
  · rw [List.getElem?_eq_none h1, List.getElem?_eq_none (by omega)]
theorem fAt_ext {s t : List Fct} (h : s.length = t.length) (e : ∀ i, i < s.length → fAt s i = fAt t i) : s = t := by
  apply List.ext_getElem? 
  intro i
  rcases Nat.lt_or_ge i s.length with h1 | h1
  · have := e i h1
    unfold fAt at this
    rw [List.getElem?_eq_getElem h1, List.getElem?_eq_getElem (by omega)] at this ⊢
    simpa using this
  · rw [List.getElem?_eq_none h1, List.getElem?_eq_none (by omega)]
def DrawTrue (w : World) (en : Ending) (w' : World) : Prop := ∃ n, w' = w.drewN n ∧ en = .returned (.bool true)
theorem SpnsAt.drew {w : World} {a : Option Addr} {s : List Spn} (h : SpnsAt w a s) (n : Nat) : SpnsAt (w.drewN n) a s := h.below (below_drewN (Below.refl _ _) n)
theorem FactsAt.drew {w : World} {a : Option Addr} {s : List Fct} (h : FactsAt w a s) (n : Nat) : FactsAt (w.drewN n) a s := h.below (below_drewN (Below.refl _ _) n)

set_option maxRecDepth 100000 in
set_option maxHeartbeats 2000000 in
theorem sameSpans_any (a b : Option Addr) (s : List Spn) (ca cb : Nat) (w : World) (ha : SpnsAt w a s) (hb : SpnsAt w b s) :
  Calls Try.prog 27 #[.slice a s.length ca, .slice b s.length cb] w (DrawTrue w) := by
  have hlen := ha.len
  have HA := hid ha
  have HB := hid hb
  clear ha hb
  go_enter Try.func27, Try.ntmps27
  go_wp2
  go_loopw [5] (fun i wr => ∃ k : Nat, k ≤ s.length ∧ i = .int .i64 k ∧ Hid (∃ n, wr = w.drewN n)) (fun i _ => s.length - (intOf i).toNat)
  case atStart => exact ⟨0, Nat.zero_le _, rfl, ⟨0, rfl⟩⟩
  case round =>
    obtain ⟨k, hk, rfl, HW⟩ := hrel
    by_cases hlt : k < s.length
    · have HA2 := hid (show SpnsAt wr a s by obtain ⟨n, e⟩ := HW.out; rw [e]; exact HA.out.drew n)
      have HB2 := hid (show SpnsAt wr b s by obtain ⟨n, e⟩ := HW.out; rw [e]; exact HB.out.drew n)
      rcases HA2.out.at_ with e | ⟨p, o, rfl, hc⟩
      · rw [e] at hlt; simp at hlt
      rcases HB2.out.at_ with e | ⟨q, o2, rfl, hd⟩
      · rw [e] at hlt; simp at hlt
      obtain ⟨c0, c1, c2⟩ := hc k hlt
      obtain ⟨d0, d1, d2⟩ := hd k hlt
      have i0 : (0 : Int) ≤ (k : Int) := by omega
      have i1 : (k : Int) < (s.length : Int) := by omega
      clear hc hd
      generalize sAt s k = x at *
      go_wp2
      go_quiet (fail)
      go_wp2
      go_roundw
      case rel => exact ⟨k + 1, by omega, by go_num, by obtain ⟨m, e⟩ := HW.out; exact ⟨m + nq, by rw [e, World.drewN_drewN]⟩⟩
      case measure => simp [intOf]; omega
    · go_wp2
      go_ret
      obtain ⟨n, e⟩ := HW.out
      exact ⟨n, e, rfl⟩

set_option maxRecDepth 100000 in
set_option maxHeartbeats 2000000 in
theorem sameFacts_any (a b : Option Addr) (s : List Fct) (ca cb : Nat) (w : World) (ha : FactsAt w a s) (hb : FactsAt w b s) :
  Calls Try.prog 19 #[.slice a s.length ca, .slice b s.length cb] w (DrawTrue w) := by
  have hlen := ha.len
  have HA := hid ha
  have HB := hid hb
  clear ha hb
  go_enter Try.func19, Try.ntmps19
  go_wp2
  go_loopw [5] (fun i wr => ∃ k : Nat, k ≤ s.length ∧ i = .int .i64 k ∧ Hid (∃ n, wr = w.drewN n)) (fun i _ => s.length - (intOf i).toNat)
  case atStart => exact ⟨0, Nat.zero_le _, rfl, ⟨0, rfl⟩⟩
  case round =>
    obtain ⟨k, hk, rfl, HW⟩ := hrel
    by_cases hlt : k < s.length
    · have HA2 := hid (show FactsAt wr a s by obtain ⟨n, e⟩ := HW.out; rw [e]; exact HA.out.drew n)
      have HB2 := hid (show FactsAt wr b s by obtain ⟨n, e⟩ := HW.out; rw [e]; exact HB.out.drew n)
      rcases HA2.out.at_ with e | ⟨p, o, rfl, hc⟩
      · rw [e] at hlt; simp at hlt
      rcases HB2.out.at_ with e | ⟨q, o2, rfl, hd⟩
      · rw [e] at hlt; simp at hlt
      obtain ⟨c0, c1, c2, c3, c4⟩ := hc k hlt
      obtain ⟨d0, d1, d2, d3, d4⟩ := hd k hlt
      have i0 : (0 : Int) ≤ (k : Int) := by omega
      have i1 : (k : Int) < (s.length : Int) := by omega
      clear hc hd
      generalize fAt s k = x at *
      go_wp2
      go_quiet (fail)
      go_wp2
      go_roundw
      case rel => exact ⟨k + 1, by omega, by go_num, by obtain ⟨m, e⟩ := HW.out; exact ⟨m + nq, by rw [e, World.drewN_drewN]⟩⟩
      case measure => simp [intOf]; omega
    · go_wp2
      go_ret
      obtain ⟨n, e⟩ := HW.out
      exact ⟨n, e, rfl⟩
end Go.Proofs.Ytkepjoociidkcaa
