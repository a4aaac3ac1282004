/- Games in memory; the errors of a game: package guess and the document's own. -/
import Derived.Test.YtfjncmhbpfcdiaaGuA
set_option linter.unusedVariables false
namespace Go.Proofs.Ytfjncmhbpfcdiaa
open Go.RowKit

/-- A slice that reads as a list of marks. -/
structure Marks (w : World) (a : Option Addr) (l : List Bool) : Prop where
  len : l.length ≤ 140737488355328
  at_ : l = [] ∨ ∃ b off, a = some ⟨b, off, none⟩ ∧ ∀ i, i < l.length → w.cell? ⟨b, off + i, none⟩ = some (.bool (bAt l i))
theorem Marks.below {w w' : World} {a : Option Addr} {l : List Bool} (h : Marks w a l) (hb : Below w.heap.size w w') : Marks w' a l := by
  refine ⟨h.len, ?_⟩
  rcases h.at_ with e | ⟨b, off, ha, hc⟩
  · exact .inl e
  · exact .inr ⟨b, off, ha, fun i hi => by rw [hb.cell (cell_lt (hc i hi))]; exact hc i hi⟩
/-- A slice that reads as a game. -/
structure GameAt (w : World) (a : Option Addr) (g : List Rnd) : Prop where
  len : g.length ≤ 140737488355328
  at_ : g = [] ∨ ∃ b off, a = some ⟨b, off, none⟩ ∧ ∀ i, i < g.length → ∃ A c, w.cell? ⟨b, off + i * 2, none⟩ = some (.slice A (rAt g i).1.length c) ∧ w.cell? ⟨b, off + i * 2 + 1, none⟩ = some (.bool (rAt g i).2) ∧ Marks w A (rAt g i).1
theorem GameAt.below {w w' : World} {a : Option Addr} {g : List Rnd} (h : GameAt w a g) (hb : Below w.heap.size w w') : GameAt w' a g := by
  refine ⟨h.len, ?_⟩
  rcases h.at_ with e | ⟨b, off, ha, hc⟩
  · exact .inl e
  · refine .inr ⟨b, off, ha, fun i hi => ?_⟩
    obtain ⟨A, c, h1, h2, h3⟩ := hc i hi
    exact ⟨A, c, by rw [hb.cell (cell_lt h1)]; exact h1, by rw [hb.cell (cell_lt h2)]; exact h2, h3.below hb⟩
theorem GameAt.take {w : World} {a : Option Addr} {g : List Rnd} (h : GameAt w a g) (k : Nat) (hk : k ≤ g.length) : GameAt w a (g.take k) := by
  have hl : (g.take k).length = k := by simp; omega
  refine ⟨by have := h.len; omega, ?_⟩
  rcases h.at_ with e | ⟨b, off, ha, hc⟩
  · left; rw [e]; simp
  · refine .inr ⟨b, off, ha, fun i hi => ?_⟩
    rw [rAt_take g k i (by omega)]
    exact hc i (by omega)
set_option maxHeartbeats 400000 in
theorem advisers_any (a : Option Addr) (g : List Rnd) (cap : Nat) (w : World) (h : GameAt w a g) : Calls Try.prog 49 #[.slice a g.length cap] w (NumG w (advs g)) := by
  have hlen := h.len
  rcases h.at_ with rfl | ⟨b, off, rfl, hc⟩
  · clear h
    go_enter Try.func49, Try.ntmps49
    go_wp2
    go_ret
    exact ⟨rfl, rfl⟩
  · by_cases h0 : g.length = 0
    · obtain rfl := List.eq_nil_of_length_eq_zero h0
      clear h hc
      go_enter Try.func49, Try.ntmps49
      go_wp2
      go_ret
      exact ⟨rfl, rfl⟩
    · obtain ⟨A, c, c0, _, s0⟩ := hc 0 (by omega)
      have h0' : ((g.length : Int) == 0) = false := by rw [beq_eq_false_iff_ne]; omega
      have h1' : 0 < g.length := by omega
      rw [Nat.zero_mul, Nat.add_zero] at c0
      rw [show advs g = (rAt g 0).1.length from rfl]
      generalize (rAt g 0).1 = r at *
      clear h hc h0 s0
      go_enter Try.func49, Try.ntmps49
      go_wp2
      go_ret
      exact ⟨rfl, rfl⟩

def DrwI (w : World) (v : Int) (en : Ending) (w' : World) : Prop := ∃ n, w' = w.drewN n ∧ en = .returned (.int .i64 v)
theorem cell_drewN (w : World) (n : Nat) (p : Addr) : (w.drewN n).cell? p = w.cell? p := rfl
theorem GameAt.drew {w : World} {a : Option Addr} {g : List Rnd} (h : GameAt w a g) (n : Nat) : GameAt (w.drewN n) a g := h.below (below_drewN (Below.refl _ _) n)
set_option maxRecDepth 100000 in
set_option maxHeartbeats 1000000 in
theorem gValidate_any (a : Option Addr) (g : List Rnd) (cap : Nat) (w : World) (h : GameAt w a g) : Calls Try.prog 22 #[.slice a g.length cap] w (DrwI w (gameE g)) := by
  have hlen := h.len
  by_cases h0 : 24 < g.length
  · have HS := hid (show gameE g = 4 by unfold gameE; rw [if_pos h0])
    have h0' : (24 : Int) < (g.length : Int) := by omega
    go_enter Try.func22, Try.ntmps22
    go_wp2
    go_ret
    exact ⟨0, rfl, ret_int (by rw [HS.out])⟩
  · have HS := hid (show gameE g = if roundsOk (advs g) g = true then 0 else 1 by unfold gameE; rw [if_neg h0])
    have h0' : (g.length : Int) ≤ 24 := by omega
    have HH := hid h
    clear h0 h
    go_enter Try.func22, Try.ntmps22
    go_wp2
    go_loopw [9] (fun i wr => ∃ (k : Nat), k ≤ g.length ∧ i = .int .i64 k ∧ Hid (roundsOk (advs g) g = roundsOk (advs g) (g.drop k)) ∧ Hid (∃ n, wr = w.drewN n)) (fun i _ => g.length - (intOf i).toNat)
    case atStart => exact ⟨0, Nat.zero_le _, rfl, rfl, ⟨0, rfl⟩⟩
    case round =>
      obtain ⟨k, hk, rfl, HT, HW⟩ := hrel
      by_cases hlt : k < g.length
      · have HG : Hid (GameAt wr a g) := by obtain ⟨n, e⟩ := HW.out; rw [e]; exact HH.out.drew n
        have HA := hid (fun n => advisers_any a g cap (wr.drewN n) (HG.out.drew n))
        rcases HG.out.at_ with e | ⟨b, off, rfl, hc⟩
        · rw [e] at hlt; simp at hlt
        obtain ⟨A, c, c0, _, s0⟩ := hc k hlt
        have HD := hid (roundsOk_drop (advs g) g k hlt)
        have HR := hid (show rndOk (advs g) (rAt g k) = decide ((rAt g k).1.length = advs g ∧ 1 ≤ (rAt g k).1.length ∧ (rAt g k).1.length ≤ 8) from rfl)
        have hrl := s0.len
        have i0 : (0 : Int) ≤ (k : Int) := by omega
        have i1 : (k : Int) < (g.length : Int) := by omega
        generalize hadv : advs g = m at HA HD HR HT HS
        generalize (rAt g k).1 = r at *
        have HB := hid (fun n => gWithin_any (r.length : Int) 1 8 (wr.drewN n))
        clear hc s0 hadv
        by_cases hm : r.length = m
        · by_cases hw : 1 ≤ r.length ∧ r.length ≤ 8
          · have HX := hid (show cinB (r.length : Int) 1 8 = true by simp [cinB]; omega)
            rw [HX.out] at HB
            have HN := hid (show roundsOk m g = roundsOk m (g.drop (k + 1)) by rw [HT.out, HD.out, HR.out]; simp [hm]; omega)
            have hm' : ((r.length : Int) != (m : Int)) = false := by simp; omega
            clear hm hw HX HD HR HT
            go_wp2_with fail
            go_quiet ((first | (go_at_call 49; exact Calls.quiet_of_same ((HA.out _).mono fun _ _ h => ⟨h.2, h.1.symm⟩)) | (go_at_call 51; exact Calls.quiet_of_same ((HB.out _).mono fun _ _ h => ⟨h.2, h.1.symm⟩))))
            go_wp2
            go_roundw
            case rel => exact ⟨k + 1, by omega, by go_num, HN, by obtain ⟨n, e⟩ := HW.out; exact ⟨n + nq, by rw [e, World.drewN_drewN]⟩⟩
            case measure => simp [intOf]; omega
          · have HX := hid (show cinB (r.length : Int) 1 8 = false by simp [cinB]; omega)
            rw [HX.out] at HB
            have HN := hid (show gameE g = 1 by rw [HS.out, HT.out, HD.out, HR.out]; simp [hm]; omega)
            have hm' : ((r.length : Int) != (m : Int)) = false := by simp; omega
            clear hm hw HX HD HR HT
            go_wp2_with fail
            go_quiet ((first | (go_at_call 49; exact Calls.quiet_of_same ((HA.out _).mono fun _ _ h => ⟨h.2, h.1.symm⟩)) | (go_at_call 51; exact Calls.quiet_of_same ((HB.out _).mono fun _ _ h => ⟨h.2, h.1.symm⟩))))
            go_wp2
            go_ret
            exact by obtain ⟨n, e⟩ := HW.out; exact ⟨n + nq, by rw [e, World.drewN_drewN], ret_int (by rw [HN.out])⟩
        · have HN := hid (show gameE g = 1 by rw [HS.out, HT.out, HD.out, HR.out]; simp [hm])
          have hm' : ((r.length : Int) != (m : Int)) = true := by simp; omega
          clear hm HD HR HT
          go_wp2_with fail
          go_quiet ((first | (go_at_call 49; exact Calls.quiet_of_same ((HA.out _).mono fun _ _ h => ⟨h.2, h.1.symm⟩)) | (go_at_call 51; exact Calls.quiet_of_same ((HB.out _).mono fun _ _ h => ⟨h.2, h.1.symm⟩))))
          go_wp2
          go_ret
          exact by obtain ⟨n, e⟩ := HW.out; exact ⟨n + nq, by rw [e, World.drewN_drewN], ret_int (by rw [HN.out])⟩
      · have HN := hid (show gameE g = 0 by rw [HS.out, HT.out, List.drop_of_length_le (by omega)]; rfl)
        go_wp2
        go_ret
        exact by obtain ⟨n, e⟩ := HW.out; exact ⟨n, e, ret_int (by rw [HN.out])⟩
end Go.Proofs.Ytfjncmhbpfcdiaa
