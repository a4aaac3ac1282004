/- What the office says, and how often it errs: package guess. -/
import Derived.Test.YtfjncmhbpfcdiaaGuPlay
set_option linter.unusedVariables false
namespace Go.Proofs.Ytfjncmhbpfcdiaa
open Go.RowKit

set_option maxRecDepth 100000 in
set_option maxHeartbeats 1000000 in
theorem gErrors_of (f : Nat) (a A : Option Addr) (g : List Rnd) (cap c : Nat) (w : World) (h : GameAt w a g) (hl : g.length ≤ 24) (hm : Marks w A (saidL f g g.length)) :
  Calls Try.prog 54 #[.slice a g.length cap, .slice A g.length c] w (DrwI w (errN f g g.length)) := by
  have HH := hid h
  have HM := hid hm
  have HW0 := hid (fun k => errN_le f g k)
  have HLn := hid (saidL_len f g g.length)
  have HSa := hid (fun k (hk : k < g.length) => saidL_at f g g.length k hk)
  have HSn := hid (show ∀ k, errN f g (k + 1) = errN f g k + if saidN f g k = (rAt g k).2 then 0 else 1 from fun k => rfl)
  clear h hm
  go_enter Try.func54, Try.ntmps54
  go_wp2
  go_loopw [5, 9] (fun t i wr => ∃ (k : Nat), k ≤ g.length ∧ i = .int .i64 k ∧ t = .int .i64 (errN f g k) ∧ Hid (∃ n, wr = w.drewN n)) (fun _ i _ => g.length - (intOf i).toNat)
  case atStart => exact ⟨0, Nat.zero_le _, rfl, rfl, ⟨0, rfl⟩⟩
  case round =>
    obtain ⟨k, hk, rfl, rfl, HW⟩ := hrel
    have hwk := HW0.out k
    by_cases hlt : k < g.length
    · have HG : Hid (GameAt wr a g) := by obtain ⟨n, e⟩ := HW.out; rw [e]; exact HH.out.drew n
      have HMr : Hid (Marks wr A (saidL f g g.length)) := by obtain ⟨n, e⟩ := HW.out; rw [e]; exact HM.out.below (below_drewN (Below.refl _ _) n)
      rcases HG.out.at_ with e | ⟨b, off, rfl, hc⟩
      · rw [e] at hlt; simp at hlt
      obtain ⟨A1, c1, _, c2, _⟩ := hc k hlt
      have hln := HLn.out
      rcases HMr.out.at_ with e | ⟨b2, off2, rfl, hm⟩
      · rw [e] at hln; simp at hln; omega
      have c3 := hm k (by omega)
      rw [HSa.out k hlt] at c3
      have HN := hid (HSn.out k)
      have i0 : (0 : Int) ≤ (k : Int) := by omega
      have i1 : (k : Int) < (g.length : Int) := by omega
      clear hc hm hln
      generalize saidN f g k = p at *
      generalize (rAt g k).2 = q at *
      generalize hen : errN f g k = v at *
      clear hen
      cases hpq : (p == q) with
      | false =>
        have hne : p ≠ q := by simpa using hpq
        have HN := hid ((HN.out).trans (by rw [if_neg hne] : _ = v + 1))
        clear hne
        go_wp2_with fail
        go_quiet (fail)
        go_wp2
        go_roundw
        case rel => exact ⟨k + 1, by omega, by go_num, by rw [HN.out]; go_num, by obtain ⟨n, e⟩ := HW.out; exact ⟨n + nq, by rw [e, World.drewN_drewN]⟩⟩
        case measure => simp [intOf]; omega
      | true =>
        have hne : p = q := by simpa using hpq
        have HN := hid ((HN.out).trans (by rw [if_pos hne, Nat.add_zero] : _ = v))
        clear hne
        go_wp2_with fail
        go_quiet (fail)
        go_wp2
        go_roundw
        case rel => exact ⟨k + 1, by omega, by go_num, by rw [HN.out], by obtain ⟨n, e⟩ := HW.out; exact ⟨n + nq, by rw [e, World.drewN_drewN]⟩⟩
        case measure => simp [intOf]; omega
    · obtain rfl : k = g.length := by omega
      go_wp2
      go_ret
      obtain ⟨n, e⟩ := HW.out
      exact ⟨n, e, rfl⟩

/-- What Said answers. -/
def SaidR (w : World) (p : List Bool × Int) (en : Ending) (w' : World) : Prop := Below w.heap.size w w' ∧ ∃ A c, en = .returned (.tuple #[.slice A p.1.length c, .int .i64 p.2]) ∧ Marks w' A p.1
def saidV (g : List Rnd) : List Bool × Int := if gameE g = 0 then (saidL 16777216 g g.length, 0) else ([], gameE g)
def BelP (w : World) (p : Int × Int) (en : Ending) (w' : World) : Prop := Below w.heap.size w w' ∧ en = .returned (.tuple #[.int .i64 p.1, .int .i64 p.2])
def errsV (g : List Rnd) : Int × Int := if gameE g = 0 then (errN 16777216 g g.length, 0) else (0, gameE g)

set_option maxRecDepth 100000 in
set_option maxHeartbeats 1000000 in
theorem gSaid_any (a : Option Addr) (g : List Rnd) (cap : Nat) (w : World) (h : GameAt w a g) : Calls Try.prog 27 #[.slice a g.length cap] w (SaidR w (saidV g)) := by
  have hlen := h.len
  have HV := hid (gValidate_any a g cap w h)
  have HE := hid (show saidV g = if gameE g = 0 then (saidL 16777216 g g.length, 0) else ([], gameE g) from rfl)
  by_cases h0 : gameE g = 0
  · have HE := hid ((HE.out).trans (if_pos h0))
    have HP := hid (fun m => gPlay_any 16777216 a g cap (w.drewN m) (h.drew m) (gameE_ok h0) (Nat.le_refl _))
    rw [h0] at HV
    have HL := hid (saidL_len 16777216 g g.length)
    have hl24 := (gameE_ok h0).len
    clear h h0
    go_enter Try.func27, Try.ntmps27
    go_wp2_with fail
    refine HV.out.mono ?_
    rintro e w1 ⟨m, rfl, rfl⟩
    have hm0 := hid (below_drewN (Below.refl w.heap.size w) m)
    go_wp2_with fail
    refine (HP.out m).mono ?_
    rintro e w2 ⟨hb2, A, c, rfl, hm2⟩
    have HB2 := hid (hm0.out.trans hb2)
    have HM2 := hid hm2
    clear hb2 hm2
    unfold wcells
    go_wp2
    go_ret2
    exact ⟨HB2.out.alloc HB2.out.size _, A, c, by rw [HE.out, HL.out]; rfl, by rw [HE.out]; exact HM2.out.below ((Below.refl _ _).alloc (Nat.le_refl _) _)⟩
  · have HE := hid ((HE.out).trans (if_neg h0))
    have h1 : (gameE g != 0) = true := by simp [h0]
    clear h h0
    generalize gameE g = v at *
    go_enter Try.func27, Try.ntmps27
    go_wp2_with fail
    refine HV.out.mono ?_
    rintro e w1 ⟨m, rfl, rfl⟩
    have hm0 := hid (below_drewN (Below.refl w.heap.size w) m)
    go_wp2
    go_ret2
    exact ⟨hm0.out, none, 0, by rw [HE.out]; rfl, by rw [HE.out]; exact ⟨by simp, .inl rfl⟩⟩
set_option maxRecDepth 100000 in
set_option maxHeartbeats 1000000 in
theorem gErrors_any (a : Option Addr) (g : List Rnd) (cap : Nat) (w : World) (h : GameAt w a g) : Calls Try.prog 29 #[.slice a g.length cap] w (BelP w (errsV g)) := by
  have hlen := h.len
  have HV := hid (gValidate_any a g cap w h)
  have HE := hid (show errsV g = if gameE g = 0 then ((errN 16777216 g g.length : Int), 0) else (0, gameE g) from rfl)
  by_cases h0 : gameE g = 0
  · have HE := hid ((HE.out).trans (if_pos h0))
    have HP := hid (fun m => gPlay_any 16777216 a g cap (w.drewN m) (h.drew m) (gameE_ok h0) (Nat.le_refl _))
    rw [h0] at HV
    have hl24 := (gameE_ok h0).len
    have HH := hid h
    have hel := errN_le 16777216 g g.length
    clear h h0
    go_enter Try.func29, Try.ntmps29
    go_wp2_with fail
    refine HV.out.mono ?_
    rintro e w1 ⟨m, rfl, rfl⟩
    have hm0 := hid (below_drewN (Below.refl w.heap.size w) m)
    go_wp2_with fail
    refine (HP.out m).mono ?_
    rintro e w2 ⟨hb2, A, c, rfl, hm2⟩
    have HB2 := hid (hm0.out.trans hb2)
    have HEr := hid (fun W (hb : Below w2.heap.size w2 W) => gErrors_of 16777216 a A g cap c W ((HH.out.below HB2.out).below hb) hl24 (hm2.below hb))
    unfold wcells
    clear hb2 hm2
    go_wp2_with fail
    refine (HEr.out _ ((Below.refl _ _).alloc (Nat.le_refl _) _)).mono ?_
    rintro e w3 ⟨n3, rfl, rfl⟩
    go_wp2
    go_ret2
    exact ⟨below_drewN (HB2.out.alloc HB2.out.size _) n3, by rw [HE.out]; rfl⟩
  · have HE := hid ((HE.out).trans (if_neg h0))
    have h1 : (gameE g != 0) = true := by simp [h0]
    clear h h0
    generalize gameE g = v at *
    go_enter Try.func29, Try.ntmps29
    go_wp2_with fail
    refine HV.out.mono ?_
    rintro e w1 ⟨m, rfl, rfl⟩
    have hm0 := hid (below_drewN (Below.refl w.heap.size w) m)
    go_wp2
    go_ret2
    exact ⟨hm0.out, by rw [HE.out]; rfl⟩
end Go.Proofs.Ytfjncmhbpfcdiaa
