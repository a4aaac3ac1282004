/- The walk of the law MenuAccepts. -/
import Derived.Test.YtkboeldafppicaaKn3
import Derived.Test.YtkboeldafppicaaMRef2
import Derived.Test.YtkboeldafppicaaMLg
set_option linter.unusedVariables false
set_option linter.unusedSimpArgs false
namespace Go.Proofs.Ytkboeldafppicaa
open Go.RowKit

theorem mbS_keep {w0 w w' : World} {pM : Nat} {L : Int} {rn an : Nat} {Na : Option Addr} {nc : Nat} {Aa : Option Addr} {ac : Nat} (h : w.cell? ⟨pM, 0, none⟩ = some (.int .i64 L) ∧ w.cell? ⟨pM, 1, none⟩ = some (.slice Na rn nc) ∧ w.cell? ⟨pM, 2, none⟩ = some (.slice Aa an ac) ∧ Below w0.heap.size w0 w) (hb : Below w.heap.size w w') : w'.cell? ⟨pM, 0, none⟩ = some (.int .i64 L) ∧ w'.cell? ⟨pM, 1, none⟩ = some (.slice Na rn nc) ∧ w'.cell? ⟨pM, 2, none⟩ = some (.slice Aa an ac) ∧ Below w0.heap.size w0 w' := by
  obtain ⟨h2, h3, h4, h6⟩ := h
  exact ⟨(hb.cell (cell_lt h2)).trans h2, (hb.cell (cell_lt h3)).trans h3, (hb.cell (cell_lt h4)).trans h4, h6.trans (hb.mono h6.size)⟩
set_option maxRecDepth 100000 in
set_option maxHeartbeats 4000000 in
theorem menuAccepts_walk (L : Int) (nc ac cap : Nat) (Na Aa A : Option Addr) (rows : List (List Int)) (accs : List Bool) (l : List Int) (w : World) (hM : MachRaw w Na rows Aa accs) (hl : l.length ≤ 9223372036854775807) (hw : l.length ≤ 140737488355328 → Ints w A l) :
    Calls Try.prog 3 #[.agg #[.int .i64 L, .slice Na rows.length nc, .slice Aa accs.length ac], .slice A l.length cap] w fun e w' => Below w.heap.size w w' ∧ e = .returned (.bool true) := by
  have hrl := hM.1
  have hal := hM.2.1
  have hA : Below w.heap.size w (w.alloc (amachO L Na rows.length nc Aa accs.length ac)) := (Below.refl _ _).alloc (Nat.le_refl _) _
  have HA := hid hA
  have hMb : MachRaw (w.alloc (amachO L Na rows.length nc Aa accs.length ac)) Na rows Aa accs := hM.below hA
  have HLg := hid (lLarge_any L nc ac Na Aa rows accs _ hMb)
  unfold machV at HLg
  have c0 : (w.alloc (amachO L Na rows.length nc Aa accs.length ac)).cell? ⟨w.heap.size, 0, none⟩ = some (.int .i64 L) := by go_simp
  have c1 : (w.alloc (amachO L Na rows.length nc Aa accs.length ac)).cell? ⟨w.heap.size, 1, none⟩ = some (.slice Na rows.length nc) := by go_simp
  have c2 : (w.alloc (amachO L Na rows.length nc Aa accs.length ac)).cell? ⟨w.heap.size, 2, none⟩ = some (.slice Aa accs.length ac) := by go_simp
  have hA2 : Below (w.alloc (amachO L Na rows.length nc Aa accs.length ac)).heap.size (w.alloc (amachO L Na rows.length nc Aa accs.length ac)) ((w.alloc (amachO L Na rows.length nc Aa accs.length ac)).alloc (amachO L Na rows.length nc Aa accs.length ac)) := (Below.refl _ _).alloc (Nat.le_refl _) _
  have d0 := (hA2.cell (cell_lt c0)).trans c0
  have d1 := (hA2.cell (cell_lt c1)).trans c1
  have d2 := (hA2.cell (cell_lt c2)).trans c2
  have HB2 := hid (HA.out.trans (hA2.mono HA.out.size))
  cases hlg : largeM rows accs with
  | true =>
    rw [hlg] at HLg
    clear hM hw hMb hlg hA hA2 c0 c1 c2
    go_enter Try.func3, Try.ntmps3
    go_wp2_with fail
    refine HLg.out.mono ?_
    rintro e w1 ⟨rfl, rfl⟩
    go_wp2_with fail
    refine (known3_any _).mono ?_
    rintro e w2 ⟨hb, rfl⟩
    have HBz := hid (HB2.out.trans (hb.mono HB2.out.size))
    go_wp2
    go_ret
    exact ⟨HBz.out, rfl⟩
  | false =>
    obtain ⟨hmach, hr200⟩ := largeM_mach hM hlg
    rw [hlg] at HLg
    have HMc := hid hmach
    have HW := hid hw
    clear hM hw hMb hlg hmach hA hA2 c0 c1 c2
    by_cases h200 : 200 < l.length
    · have HLo := hid (fun wx => by have := llong_any A l.length cap wx hl; rw [decide_eq_true h200] at this; exact this)
      go_enter Try.func3, Try.ntmps3
      go_wp2_with fail
      refine HLg.out.mono ?_
      rintro e w1 ⟨rfl, rfl⟩
      go_wp2_with fail
      refine (HLo.out _).mono ?_
      rintro e w1 ⟨rfl, rfl⟩
      go_wp2_with fail
      refine (known3_any _).mono ?_
      rintro e w2 ⟨hb, rfl⟩
      have HBz := hid (HB2.out.trans (hb.mono HB2.out.size))
      go_wp2
      go_ret
      exact ⟨HBz.out, rfl⟩
    · have HLo := hid (fun wx => by have := llong_any A l.length cap wx hl; rw [decide_eq_false h200] at this; exact this)
      have HI := hid (HW.out (by omega))
      have HP := hid (fun wx (hb : Below w.heap.size w wx) => mAccepts_any L nc ac Na Aa rows accs A l cap wx (HMc.out.below hb) (HI.out.below hb))
      have HR := hid (fun wx (hb : Below w.heap.size w wx) => rAccepts_any L nc ac Na Aa rows accs A l cap wx (HMc.out.below hb) (HI.out.below hb))
      have HV := hid (fun wx (hb : Below w.heap.size w wx) => (mValidate_any L nc ac Na Aa rows accs wx (HMc.out.below hb)).mono (R' := fun e w' => Below wx.heap.size wx w' ∧ e = .returned (.int .i64 (vE L rows accs))) (by rintro e w' ⟨rfl, rfl⟩; exact ⟨(Below.refl _ _).alloc (Nat.le_refl _) _, rfl⟩))
      have HU := hid (fun wx (hb : Below w.heap.size w wx) => rValidate_any L nc ac Na Aa rows accs wx (HMc.out.below hb))
      unfold machV at HP HR HV HU
      generalize accB L rows accs l = ab at *
      generalize wordE L rows accs l = we at *
      generalize vE L rows accs = ve at *
      go_enter Try.func3, Try.ntmps3
      go_wp2_with fail
      refine HLg.out.mono ?_
      rintro e w1 ⟨rfl, rfl⟩
      go_wp2_with fail
      refine (HLo.out _).mono ?_
      rintro e w1 ⟨rfl, rfl⟩
      go_wp2_with fail
      refine (HP.out _ HB2.out).mono ?_
      rintro e w2 ⟨hb, rfl⟩
      have HB3 := hid (HB2.out.trans (hb.mono HB2.out.size))
      have d0 := (hb.cell (cell_lt d0)).trans d0
      have d1 := (hb.cell (cell_lt d1)).trans d1
      have d2 := (hb.cell (cell_lt d2)).trans d2
      clear hb
      go_wp2_with fail
      refine (HR.out _ HB3.out).mono ?_
      rintro e w3 ⟨hb, rfl⟩
      have HB4 := hid (HB3.out.trans (hb.mono HB3.out.size))
      have d0 := (hb.cell (cell_lt d0)).trans d0
      have d1 := (hb.cell (cell_lt d1)).trans d1
      have d2 := (hb.cell (cell_lt d2)).trans d2
      clear hb
      have S0 := hid (show _ ∧ _ ∧ _ ∧ _ from ⟨d0, d1, d2, HB4.out⟩)
      clear d0 d1 d2
      go_wp2_with fail
      go_region_held3 (fun w' => w'.cell? ⟨w.heap.size, 0, none⟩ = some (.int .i64 L) ∧ w'.cell? ⟨w.heap.size, 1, none⟩ = some (.slice Na rows.length nc) ∧ w'.cell? ⟨w.heap.size, 2, none⟩ = some (.slice Aa accs.length ac) ∧ Below w.heap.size w w') (first | exact mbS_keep S0.out (Below.refl _ _).drew | exact S0.out | exact mbS_keep (by assumption) (by assumption)) ((first | (go_at_call 23; refine (HV.out _ ?_).mono ?_; (exact (And.right (And.right (And.right (by assumption))))); rintro e w5 ⟨hb5, rfl⟩) | (go_at_call 24; refine (HU.out _ ?_).mono ?_; (exact (And.right (And.right (And.right (by assumption))))); rintro e w6 ⟨hb6, rfl⟩) | (go_at_call 20; refine (known3_any _).mono ?_; rintro e w7 ⟨hb7, rfl⟩)))
      rename _ ∧ _ => hHeld
      have HBz := hid hHeld.2.2.2
      clear hb5 hb6 hb7 hHeld S0 HV HU HP HR
      go_wp2
      go_ret
      exact ⟨HBz.out, rfl⟩
end Go.Proofs.Ytkboeldafppicaa
