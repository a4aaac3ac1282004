/- Which games are long; equal lists of marks. -/
import Derived.Test.YtfjncmhbpfcdiaaGuOpen
import Derived.Test.YtfjncmhbpfcdiaaGuKn
set_option linter.unusedVariables false
namespace Go.Proofs.Ytfjncmhbpfcdiaa
open Go.RowKit

def longR6 : List Rnd → Bool
  | [] => false
  | r :: t => decide (40 < r.1.length) || longR6 t
def longG (g : List Rnd) : Bool := longR6 g || decide (60 < g.length)
theorem longR6_drop (g : List Rnd) (k : Nat) (h : k < g.length) : longR6 (g.drop k) = (decide (40 < (rAt g k).1.length) || longR6 (g.drop (k + 1))) := by
  rw [List.drop_eq_getElem_cons h, longR6]; simp [rAt, h]
theorem longR6_false {g : List Rnd} (h : longR6 g = false) : ∀ i, i < g.length → (rAt g i).1.length ≤ 40 := by
  induction g with
  | nil => intro i hi; simp at hi
  | cons x t ih =>
    rw [longR6, Bool.or_eq_false_iff] at h
    intro i hi
    cases i with
    | zero => have := h.1; simp at this; simpa [rAt] using this
    | succ i => simpa [rAt] using ih h.2 i (by simpa using hi)
theorem GameRaw.below {w w' : World} {a : Option Addr} {g : List Rnd} (h : GameRaw w a g) (hb : Below w.heap.size w w') : GameRaw w' a g := by
  refine ⟨h.1, ?_⟩
  rcases h.2 with e | ⟨b, off, ha, hc⟩
  · exact .inl e
  · refine .inr ⟨b, off, ha, fun i hi => ?_⟩
    obtain ⟨A, c, h1, h2, h3⟩ := hc i hi
    exact ⟨A, c, by rw [hb.cell (cell_lt h1)]; exact h1, by rw [hb.cell (cell_lt h2)]; exact h2, h3.1, fun hl => (h3.2 hl).below hb⟩
/-- A game that is not long can be read. -/
theorem GameRaw.game {w : World} {a : Option Addr} {g : List Rnd} (h : GameRaw w a g) (hl : longG g = false) : GameAt w a g := by
  rw [longG, Bool.or_eq_false_iff, decide_eq_false_iff_not] at hl
  refine ⟨by omega, ?_⟩
  rcases h.2 with e | ⟨b, off, ha, hc⟩
  · exact .inl e
  · refine .inr ⟨b, off, ha, fun i hi => ?_⟩
    obtain ⟨A, c, h1, h2, h3⟩ := hc i hi
    exact ⟨A, c, h1, h2, h3.2 (by have := longR6_false hl.1 i hi; omega)⟩
set_option maxRecDepth 100000 in
set_option maxHeartbeats 1000000 in
theorem long6_any (a : Option Addr) (g : List Rnd) (cap : Nat) (w : World) (h : GameRaw w a g) : Calls Try.prog 14 #[.slice a g.length cap] w (SaysG w (longG g)) := by
  have hlen := h.1
  have HH := hid h
  have HL := hid (show longG g = (longR6 g || decide (60 < g.length)) from rfl)
  clear h
  go_enter Try.func14, Try.ntmps14
  go_wp2
  go_loop [3] (fun i => ∃ (k : Nat), k ≤ g.length ∧ i = .int .i64 k ∧ Hid (longR6 g = longR6 (g.drop k))) (fun i => g.length - (intOf i).toNat)
  case atStart => exact ⟨0, Nat.zero_le _, rfl, rfl⟩
  case round =>
    obtain ⟨k, hk, rfl, HT⟩ := hrel
    by_cases hlt : k < g.length
    · rcases HH.out.2 with e | ⟨b, off, rfl, hc⟩
      · rw [e] at hlt; simp at hlt
      obtain ⟨A, c, c0, _, s0⟩ := hc k hlt
      have hrl := s0.1
      have HD := hid (longR6_drop g k hlt)
      clear hc s0
      generalize (rAt g k).1 = r at *
      by_cases g1 : 40 < r.length
      · have g1' : (40 : Int) < (r.length : Int) := by omega
        have HF := hid (show longG g = true by rw [HL.out, HT.out, HD.out]; simp [g1])
        clear g1 HD HT
        go_wp2
        go_ret
        exact ⟨rfl, by rw [HF.out]; rfl⟩
      · have g1' : (r.length : Int) ≤ 40 := by omega
        have HF := hid (show longR6 g = longR6 (g.drop (k + 1)) by rw [HT.out, HD.out]; simp [g1])
        clear g1 HD HT
        go_wp2
        go_round
        case rel => exact ⟨k + 1, by omega, by go_num, HF⟩
        case measure => simp [intOf]; omega
    · have HF := hid (show longG g = decide (60 < g.length) by rw [HL.out, HT.out, List.drop_of_length_le (by omega)]; rfl)
      by_cases g6 : 60 < g.length
      · have g6' : (60 : Int) < (g.length : Int) := by omega
        have HF2 := hid ((HF.out).trans (decide_eq_true g6))
        clear g6
        go_wp2
        go_ret
        exact ⟨rfl, by rw [HF2.out]; first | rfl | (simp; omega)⟩
      · have g6' : (g.length : Int) ≤ 60 := by omega
        have HF2 := hid ((HF.out).trans (decide_eq_false g6))
        clear g6
        go_wp2
        go_ret
        exact ⟨rfl, by rw [HF2.out]; first | rfl | (simp; omega)⟩
set_option maxRecDepth 100000 in
set_option maxHeartbeats 1000000 in
theorem sameBools_self (a b : Option Addr) (l : List Bool) (ca cb : Nat) (w : World) (ha : Marks w a l) (hb : Marks w b l) : Calls Try.prog 31 #[.slice a l.length ca, .slice b l.length cb] w (fun en w' => (∃ n, w' = w.drewN n) ∧ en = .returned (.bool true)) := by
  have hlen := ha.len
  have HA := hid ha
  have HB := hid hb
  clear ha hb
  go_enter Try.func31, Try.ntmps31
  go_wp2
  go_loopw [5] (fun i wr => ∃ (k : Nat), k ≤ l.length ∧ i = .int .i64 k ∧ Hid (∃ n, wr = w.drewN n)) (fun i _ => l.length - (intOf i).toNat)
  case atStart => exact ⟨0, Nat.zero_le _, rfl, ⟨0, rfl⟩⟩
  case round =>
    obtain ⟨k, hk, rfl, HW⟩ := hrel
    by_cases hlt : k < l.length
    · obtain ⟨n9, hn9⟩ := HW.out
      rcases HA.out.at_ with e | ⟨b1, o1, rfl, hc1⟩
      · rw [e] at hlt; simp at hlt
      rcases HB.out.at_ with e | ⟨b2, o2, rfl, hc2⟩
      · rw [e] at hlt; simp at hlt
      have c1 : wr.cell? ⟨b1, o1 + k, none⟩ = some (.bool (bAt l k)) := by rw [hn9]; exact hc1 k hlt
      have c2 : wr.cell? ⟨b2, o2 + k, none⟩ = some (.bool (bAt l k)) := by rw [hn9]; exact hc2 k hlt
      have i0 : (0 : Int) ≤ (k : Int) := by omega
      have i1 : (k : Int) < (l.length : Int) := by omega
      clear hc1 hc2 hn9 n9
      generalize bAt l k = p at *
      cases p
      all_goals
        go_wp2_with fail
        (try go_quiet (fail))
        go_wp2
        go_roundw
        case rel => exact ⟨k + 1, by omega, by go_num, by obtain ⟨n, e⟩ := HW.out; first | exact ⟨n, e⟩ | exact ⟨_, by rw [e, World.drewN_drewN]⟩⟩
        case measure => simp [intOf]; omega
    · go_wp2
      go_ret
      exact ⟨HW.out, rfl⟩
end Go.Proofs.Ytfjncmhbpfcdiaa
