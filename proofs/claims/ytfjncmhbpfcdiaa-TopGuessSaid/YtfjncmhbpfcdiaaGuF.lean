/- Say and Weights of package guess. -/
import Derived.Test.YtfjncmhbpfcdiaaGuE
set_option linter.unusedVariables false
namespace Go.Proofs.Ytfjncmhbpfcdiaa
open Go.RowKit

/-- What Say answers. -/
def sayE (g : List Rnd) (l : List Bool) : Int := if gameE g = 0 then (if 1 ≤ l.length ∧ l.length ≤ 8 ∧ (0 < g.length → l.length = advs g) then 0 else 1) else gameE g
def sayV (g : List Rnd) (l : List Bool) : Bool × Int := if sayE g l = 0 then (sayN 16777216 g l g.length, 0) else (false, sayE g l)
def BelS (w : World) (p : Bool × Int) (en : Ending) (w' : World) : Prop := Below w.heap.size w w' ∧ en = .returned (.tuple #[.bool p.1, .int .i64 p.2])
/-- What Weights answers. -/
def wtL (g : List Rnd) : Nat → List Int
  | 0 => []
  | k + 1 => wtL g k ++ [(wtN 16777216 g k g.length : Int)]
def wtsV (g : List Rnd) : List Int × Int := if gameN g = 0 then (wtL g (advs g), 0) else ([], gameN g)
theorem wtL_len (g : List Rnd) (k : Nat) : (wtL g k).length = k := by
  induction k with
  | zero => rfl
  | succ k ih => rw [wtL, List.length_append, ih]; rfl
theorem wtL_at (g : List Rnd) (n i : Nat) (h : i < n) : (wtL g n)[i]?.getD 0 = (wtN 16777216 g i g.length : Int) := by
  induction n with
  | zero => omega
  | succ n ih =>
    rw [wtL]
    rcases Nat.lt_or_ge i n with hh | hh
    · rw [List.getElem?_append_left (by rw [wtL_len]; exact hh)]; exact ih hh
    · obtain rfl : i = n := by omega
      rw [List.getElem?_append_right (by rw [wtL_len]; exact Nat.le_refl _), wtL_len]; simp
theorem wtL_bd (g : List Rnd) (n : Nat) : ∀ x ∈ wtL g n, -9223372036854775808 ≤ x ∧ x ≤ 9223372036854775807 := by
  intro x hx
  obtain ⟨i, hi, rfl⟩ := List.getElem_of_mem hx
  rw [wtL_len] at hi
  have := wtL_at g n i hi
  rw [List.getElem?_eq_getElem (by rw [wtL_len]; exact hi)] at this
  simp at this
  rw [this]
  have := wtN_le 16777216 g i g.length
  omega
/-- An answer of a list of int and an error. -/
def IntsP (w : World) (p : List Int × Int) (en : Ending) (w' : World) : Prop := Below w.heap.size w w' ∧ ∃ A c, en = .returned (.tuple #[.slice A p.1.length c, .int .i64 p.2]) ∧ Ints w' A p.1

set_option maxRecDepth 100000 in
set_option maxHeartbeats 1000000 in
theorem gWeights_any (a : Option Addr) (g : List Rnd) (cap : Nat) (w : World) (h : GameAt w a g) : Calls Try.prog 18 #[.slice a g.length cap] w (IntsP w (wtsV g)) := by
  have hlen := h.len
  have HC := hid (gCheck_any a g cap 0 w h)
  rw [chkG_zero] at HC
  have HE := hid (show wtsV g = if gameN g = 0 then (wtL g (advs g), 0) else ([], gameN g) from rfl)
  by_cases h0 : gameN g = 0
  · have HE := hid ((HE.out).trans (if_pos h0))
    obtain ⟨hg0, hpos⟩ := gameN_ok h0
    have hg := gameE_ok hg0
    have had := hg.adv 0 hpos
    rw [h0] at HC
    have HP := hid (fun m => gPlay_any 16777216 a g cap (w.drewN m) (h.drew m) hg (Nat.le_refl _))
    have HA := hid (fun W (hb : Below w.heap.size w W) => advisers_any a g cap W (h.below hb))
    have hl24 := hg.len
    have a1 : (1 : Int) ≤ (advs g : Int) := by have := had.2.1; omega
    have a8 : (advs g : Int) ≤ 8 := by have := had.2.2; omega
    have HL := hid (wtL_len g (advs g))
    have HAt := hid (fun i hi => wtL_at g (advs g) i hi)
    have HBd := hid (wtL_bd g (advs g))
    generalize advs g = d at *
    clear h h0 hg hg0 had
    go_enter Try.func18, Try.ntmps18
    go_wp2_with fail
    refine HC.out.mono ?_
    rintro e w1 ⟨m, rfl, rfl⟩
    have hm0 := hid (below_drewN (Below.refl w.heap.size w) m)
    go_wp2_with fail
    refine (HP.out m).mono ?_
    rintro e w2 ⟨hb2, A, c, rfl, _⟩
    have HB2 := hid (hm0.out.trans hb2)
    have HB3 := hid (HB2.out.alloc HB2.out.size (.cells (wcells (fun a => wtN 16777216 g a g.length)) 64))
    have HW3 := hid (WBox.made w2 (fun a => wtN 16777216 g a g.length))
    clear hb2
    unfold wcells
    go_wp2_with fail
    refine (HA.out _ HB3.out).mono ?_
    rintro e w3 ⟨rfl, rfl⟩
    go_wp2
    go_ret2
    exact ⟨HB3.out, some ⟨w2.heap.size, 0, none⟩, 8, by rw [HE.out, HL.out]; rfl, by
      rw [HE.out]
      refine ⟨by rw [HL.out]; omega, .inr ⟨w2.heap.size, 0, rfl, fun i hi => ?_⟩, HBd.out⟩
      rw [HL.out] at hi
      rw [HAt.out i hi, Nat.zero_add]
      exact HW3.out.cell i (by omega)⟩
  · have HE := hid ((HE.out).trans (if_neg h0))
    have h1 : (gameN g != 0) = true := by simp [h0]
    clear h h0
    generalize gameN g = v at *
    go_enter Try.func18, Try.ntmps18
    go_wp2_with fail
    refine HC.out.mono ?_
    rintro e w1 ⟨m, rfl, rfl⟩
    have hm0 := hid (below_drewN (Below.refl w.heap.size w) m)
    go_wp2
    go_ret2
    exact ⟨hm0.out, none, 0, by rw [HE.out]; rfl, by rw [HE.out]; exact ⟨by simp, .inl rfl, by simp⟩⟩

set_option maxRecDepth 100000 in
set_option maxHeartbeats 2000000 in
theorem gSayP_any (a A : Option Addr) (g : List Rnd) (l : List Bool) (cap lc : Nat) (w : World) (h : GameAt w a g) (hm : Marks w A l) : Calls Try.prog 25 #[.slice a g.length cap, .slice A l.length lc] w (BelS w (sayV g l)) := by
  have hlen := h.len
  have hll := hm.len
  have HV := hid (gValidate_any a g cap w h)
  have HS := hid (show sayV g l = if sayE g l = 0 then (sayN 16777216 g l g.length, 0) else (false, sayE g l) from rfl)
  have HE := hid (show sayE g l = if gameE g = 0 then (if 1 ≤ l.length ∧ l.length ≤ 8 ∧ (0 < g.length → l.length = advs g) then 0 else 1) else gameE g from rfl)
  by_cases h0 : gameE g = 0
  · have HE := hid ((HE.out).trans (if_pos h0))
    rw [h0] at HV
    have hl24 := (gameE_ok h0).len
    have HA := hid (fun W (hb : Below w.heap.size w W) => advisers_any a g cap W (h.below hb))
    by_cases h8 : 1 ≤ l.length ∧ l.length ≤ 8
    · have HI := hid (fun W => gWithin_any (l.length : Int) 1 8 W)
      have hi8 : cinB (l.length : Int) 1 8 = true := by simp [cinB]; omega
      rw [hi8] at HI
      have HP := hid (fun m => gPlay_any 16777216 a g cap (w.drewN m) (h.drew m) (gameE_ok h0) (Nat.le_refl _))
      have HM := hid hm
      by_cases hz : 0 < g.length
      · have hz' : (0 : Int) < (g.length : Int) := by omega
        by_cases hd : l.length = advs g
        · have hd' : ((l.length : Int) != (advs g : Int)) = false := by simp; omega
          have HE := hid ((HE.out).trans (if_pos ⟨h8.1, h8.2, fun _ => hd⟩))
          have HS := hid ((HS.out).trans (if_pos HE.out))
          have hd1 : (l.length : Int) ≤ (advs g : Int) := by omega
          have hd2 : (advs g : Int) ≤ (l.length : Int) := by omega
          have hl8 : l.length ≤ 8 := h8.2
          clear h h0 hm hi8 hd h8
          generalize advs g = d at *
          go_enter Try.func25, Try.ntmps25
          go_wp2_with fail
          refine HV.out.mono ?_
          rintro e w1 ⟨m, rfl, rfl⟩
          have hm0 := hid (below_drewN (Below.refl w.heap.size w) m)
          go_wp2_with fail
          refine (HI.out _).mono ?_
          rintro e w2 ⟨rfl, rfl⟩
          go_wp2_with fail
          refine (HA.out _ hm0.out).mono ?_
          rintro e w3 ⟨rfl, rfl⟩
          go_wp2_with fail
          refine (HP.out m).mono ?_
          rintro e w2 ⟨hb2, B, c, rfl, _⟩
          have HB2 := hid (hm0.out.trans hb2)
          have HB3 := hid (HB2.out.alloc HB2.out.size (.cells (wcells (fun a => wtN 16777216 g a g.length)) 64))
          have HSy := hid (gSay_any (fun a => wtN 16777216 g a g.length) A l lc _ (HM.out.below HB3.out) hl8 (fun i => wtN_le 16777216 g i g.length))
          clear hb2
          unfold wcells at HSy
          unfold wcells
          go_wp2_with fail
          refine HSy.out.mono ?_
          rintro e w4 ⟨rfl, rfl⟩
          go_wp2
          go_ret2
          exact ⟨HB3.out.alloc HB3.out.size _, by rw [HS.out]; rfl⟩
        · have hd' : ((l.length : Int) != (advs g : Int)) = true := by simp; omega
          have HE := hid ((HE.out).trans (if_neg fun hh => hd (hh.2.2 hz)))
          have HS := hid ((HS.out).trans (if_neg (by rw [HE.out]; decide)))
          rw [HE.out] at HS
          clear h h0 hm hi8 hd h8 HP HM
          generalize advs g = d at *
          go_enter Try.func25, Try.ntmps25
          go_wp2_with fail
          refine HV.out.mono ?_
          rintro e w1 ⟨m, rfl, rfl⟩
          have hm0 := hid (below_drewN (Below.refl w.heap.size w) m)
          go_wp2_with fail
          refine (HI.out _).mono ?_
          rintro e w2 ⟨rfl, rfl⟩
          go_wp2_with fail
          refine (HA.out _ hm0.out).mono ?_
          rintro e w3 ⟨rfl, rfl⟩
          go_wp2
          go_ret2
          exact ⟨hm0.out, by rw [HS.out]; rfl⟩
      · have hz' : (g.length : Int) ≤ 0 := by omega
        have HE := hid ((HE.out).trans (if_pos ⟨h8.1, h8.2, fun hh => absurd hh hz⟩))
        have HS := hid ((HS.out).trans (if_pos HE.out))
        have hl8 : l.length ≤ 8 := h8.2
        clear h h0 hm hi8 hz HA h8
        go_enter Try.func25, Try.ntmps25
        go_wp2_with fail
        refine HV.out.mono ?_
        rintro e w1 ⟨m, rfl, rfl⟩
        have hm0 := hid (below_drewN (Below.refl w.heap.size w) m)
        go_wp2_with fail
        refine (HI.out _).mono ?_
        rintro e w2 ⟨rfl, rfl⟩
        go_wp2_with fail
        refine (HP.out m).mono ?_
        rintro e w2 ⟨hb2, B, c, rfl, _⟩
        have HB2 := hid (hm0.out.trans hb2)
        have HB3 := hid (HB2.out.alloc HB2.out.size (.cells (wcells (fun a => wtN 16777216 g a g.length)) 64))
        have HSy := hid (gSay_any (fun a => wtN 16777216 g a g.length) A l lc _ (HM.out.below HB3.out) hl8 (fun i => wtN_le 16777216 g i g.length))
        clear hb2
        unfold wcells at HSy
        unfold wcells
        go_wp2_with fail
        refine HSy.out.mono ?_
        rintro e w4 ⟨rfl, rfl⟩
        go_wp2
        go_ret2
        exact ⟨HB3.out.alloc HB3.out.size _, by rw [HS.out]; rfl⟩
    · have HI := hid (fun W => gWithin_any (l.length : Int) 1 8 W)
      have hi8 : cinB (l.length : Int) 1 8 = false := by simp [cinB]; omega
      rw [hi8] at HI
      have HE := hid ((HE.out).trans (if_neg fun hh => h8 ⟨hh.1, hh.2.1⟩))
      have HS := hid ((HS.out).trans (if_neg (by rw [HE.out]; decide)))
      rw [HE.out] at HS
      clear h h0 hm hi8 h8 HA
      go_enter Try.func25, Try.ntmps25
      go_wp2_with fail
      refine HV.out.mono ?_
      rintro e w1 ⟨m, rfl, rfl⟩
      have hm0 := hid (below_drewN (Below.refl w.heap.size w) m)
      go_wp2_with fail
      refine (HI.out _).mono ?_
      rintro e w2 ⟨rfl, rfl⟩
      go_wp2
      go_ret2
      exact ⟨hm0.out, by rw [HS.out]; rfl⟩
  · have HE := hid ((HE.out).trans (if_neg h0))
    have HS := hid ((HS.out).trans (if_neg (by rw [HE.out]; exact h0)))
    rw [HE.out] at HS
    have h1 : (gameE g != 0) = true := by simp [h0]
    clear h h0 hm
    generalize gameE g = v at *
    go_enter Try.func25, Try.ntmps25
    go_wp2_with fail
    refine HV.out.mono ?_
    rintro e w1 ⟨m, rfl, rfl⟩
    have hm0 := hid (below_drewN (Below.refl w.heap.size w) m)
    go_wp2
    go_ret2
    exact ⟨hm0.out, by rw [HS.out]; rfl⟩
end Go.Proofs.Ytfjncmhbpfcdiaa
