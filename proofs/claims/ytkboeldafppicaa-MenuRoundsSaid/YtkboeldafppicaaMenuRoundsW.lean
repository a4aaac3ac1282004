/- The walk of the law MenuRounds. -/
import Derived.Test.YtkboeldafppicaaKn3
import Derived.Test.YtkboeldafppicaaMRound
import Derived.Test.YtkboeldafppicaaMLg
set_option linter.unusedVariables false
set_option linter.unusedSimpArgs false
namespace Go.Proofs.Ytkboeldafppicaa
open Go.RowKit

set_option maxRecDepth 100000 in
set_option maxHeartbeats 4000000 in
theorem menuRounds_walk (L : Int) (nc ac cap : Nat) (Na Aa A : Option Addr) (rows : List (List Int)) (accs : List Bool) (l : List Int) (w : World) (hM : MachRaw w Na rows Aa accs) (hl : l.length ≤ 9223372036854775807) (hw : l.length ≤ 140737488355328 → Ints w A l) :
    Calls Try.prog 13 #[.agg #[.int .i64 L, .slice Na rows.length nc, .slice Aa accs.length ac], .slice A l.length cap] w fun e w' => Below w.heap.size w w' ∧ e = .returned (.bool true) := by
  have hrl := hM.1
  have hal := hM.2.1
  have hA : Below w.heap.size w (w.alloc (amachO L Na rows.length nc Aa accs.length ac)) := (Below.refl _ _).alloc (Nat.le_refl _) _
  have HA := hid hA
  have hMb : MachRaw (w.alloc (amachO L Na rows.length nc Aa accs.length ac)) Na rows Aa accs := hM.below hA
  have HLg := hid (lLarge_any L nc ac Na Aa rows accs _ hMb)
  unfold machV at HLg
  have c0 : (w.alloc (amachO L Na rows.length nc Aa accs.length ac)).cell? ⟨w.heap.size, 0, none⟩ = some (.int .i64 L) := by go_simp
  have c1 : (w.alloc (amachO L Na rows.length nc Aa accs.length ac)).cell? ⟨w.heap.size, 1, none⟩ = some (.slice Na rows.length nc) := by go_simp
  have c2 : (w.alloc (amachO L Na rows.length nc Aa accs.length ac)).cell? ⟨w.heap.size, 2, none⟩ = some (.slice Aa accs.length ac) := by go_simp
  have hA2 : Below (w.alloc (amachO L Na rows.length nc Aa accs.length ac)).heap.size (w.alloc (amachO L Na rows.length nc Aa accs.length ac)) ((w.alloc (amachO L Na rows.length nc Aa accs.length ac)).alloc (amachO L Na rows.length nc Aa accs.length ac)) := (Below.refl _ _).alloc (Nat.le_refl _) _
  have d0 := (hA2.cell (cell_lt c0)).trans c0
  have d1 := (hA2.cell (cell_lt c1)).trans c1
  have d2 := (hA2.cell (cell_lt c2)).trans c2
  have HB2 := hid (HA.out.trans (hA2.mono HA.out.size))
  cases hlg : largeM rows accs with
  | true =>
    rw [hlg] at HLg
    clear hM hw hMb hlg hA hA2 c0 c1 c2
    go_enter Try.func13, Try.ntmps13
    go_wp2_with fail
    refine HLg.out.mono ?_
    rintro e w1 ⟨rfl, rfl⟩
    go_wp2_with fail
    refine (known3_any _).mono ?_
    rintro e w2 ⟨hb, rfl⟩
    have HBz := hid (HB2.out.trans (hb.mono HB2.out.size))
    go_wp2
    go_ret
    exact ⟨HBz.out, rfl⟩
  | false =>
    obtain ⟨hmach, hr200⟩ := largeM_mach hM hlg
    rw [hlg] at HLg
    have HMc := hid hmach
    have HW := hid hw
    clear hM hw hMb hlg hmach hA hA2 c0 c1 c2
    by_cases h200 : 200 < l.length
    · have HLo := hid (fun wx => by have := llong_any A l.length cap wx hl; rw [decide_eq_true h200] at this; exact this)
      go_enter Try.func13, Try.ntmps13
      go_wp2_with fail
      refine HLg.out.mono ?_
      rintro e w1 ⟨rfl, rfl⟩
      go_wp2_with fail
      refine (HLo.out _).mono ?_
      rintro e w1 ⟨rfl, rfl⟩
      go_wp2_with fail
      refine (known3_any _).mono ?_
      rintro e w2 ⟨hb, rfl⟩
      have HBz := hid (HB2.out.trans (hb.mono HB2.out.size))
      go_wp2
      go_ret
      exact ⟨HBz.out, rfl⟩
    · have HLo := hid (fun wx => by have := llong_any A l.length cap wx hl; rw [decide_eq_false h200] at this; exact this)
      have HI := hid (HW.out (by omega))
      have HP := hid (fun wx (hb : Below w.heap.size w wx) => mRound_any L nc ac Na Aa rows accs A l cap wx (HMc.out.below hb) (HI.out.below hb))
      have HR := hid (fun wx (hb : Below w.heap.size w wx) => rRound_any L nc ac Na Aa rows accs A l cap wx (HMc.out.below hb) (HI.out.below hb))
      unfold machV at HP HR
      generalize rdA L rows accs l = ab at *
      generalize wordE L rows accs l = we at *
      go_enter Try.func13, Try.ntmps13
      go_wp2_with fail
      refine HLg.out.mono ?_
      rintro e w1 ⟨rfl, rfl⟩
      go_wp2_with fail
      refine (HLo.out _).mono ?_
      rintro e w1 ⟨rfl, rfl⟩
      go_wp2_with fail
      refine (HP.out _ HB2.out).mono ?_
      rintro e w2 ⟨hb, rfl⟩
      have HB3 := hid (HB2.out.trans (hb.mono HB2.out.size))
      have d0 := (hb.cell (cell_lt d0)).trans d0
      have d1 := (hb.cell (cell_lt d1)).trans d1
      have d2 := (hb.cell (cell_lt d2)).trans d2
      clear hb
      go_wp2_with fail
      refine (HR.out _ HB3.out).mono ?_
      rintro e w3 ⟨hb, rfl⟩
      have HB4 := hid (HB3.out.trans (hb.mono HB3.out.size))
      have d0 := (hb.cell (cell_lt d0)).trans d0
      have d1 := (hb.cell (cell_lt d1)).trans d1
      have d2 := (hb.cell (cell_lt d2)).trans d2
      clear hb
      clear d0 d1 d2
      go_wp2_with fail
      refine (known3_any _).mono ?_
      rintro e w4 ⟨hb, rfl⟩
      have HBz := hid (HB4.out.trans (hb.mono HB4.out.size))
      clear hb
      go_wp2
      go_ret
      exact ⟨HBz.out, rfl⟩
end Go.Proofs.Ytkboeldafppicaa
