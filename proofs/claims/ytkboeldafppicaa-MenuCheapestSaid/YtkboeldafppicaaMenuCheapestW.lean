/- The walk of the law MenuCheapest. -/
import Derived.Test.YtkboeldafppicaaKn3
import Derived.Test.YtkboeldafppicaaMChR
import Derived.Test.YtkboeldafppicaaREqual
import Derived.Test.YtkboeldafppicaaMOpen
set_option linter.unusedVariables false
set_option linter.unusedSimpArgs false
namespace Go.Proofs.Ytkboeldafppicaa
open Go.RowKit

set_option maxRecDepth 100000 in
set_option maxHeartbeats 4000000 in
theorem menuCheapest_walk (L : Int) (nc ac : Nat) (Na Aa : Option Addr) (rows : List (List Int)) (accs : List Bool) (n : Int) (P : Option Addr) (ps : List Int) (cP : Nat) (tot : Int) (w : World) (hM : MachRaw w Na rows Aa accs) (hpl : ps.length ≤ 9223372036854775807) (hP : ps.length ≤ 140737488355328 → Ints w P ps) :
    Calls Try.prog 15 #[.agg #[.int .i64 L, .slice Na rows.length nc, .slice Aa accs.length ac], .agg #[.int .i64 n, .slice P ps.length cP, .int .i64 tot]] w fun e w' => Below w.heap.size w w' ∧ e = .returned (.bool true) := by
  have hrl := hM.1
  have hal := hM.2.1
  have hA : Below w.heap.size w ((w.alloc (amachO L Na rows.length nc Aa accs.length ac)).alloc (.cells #[.int .i64 n, .slice P ps.length cP, .int .i64 tot] 60)) := ((Below.refl _ _).alloc (Nat.le_refl _) _).alloc (by simp) _
  have HA := hid hA
  have hMb := hM.below hA
  have HLg := hid (lLarge_any L nc ac Na Aa rows accs _ hMb)
  unfold machV at HLg
  have c0 : ((w.alloc (amachO L Na rows.length nc Aa accs.length ac)).alloc (.cells #[.int .i64 n, .slice P ps.length cP, .int .i64 tot] 60)).cell? ⟨w.heap.size, 0, none⟩ = some (.int .i64 L) := by go_simp
  have c1 : ((w.alloc (amachO L Na rows.length nc Aa accs.length ac)).alloc (.cells #[.int .i64 n, .slice P ps.length cP, .int .i64 tot] 60)).cell? ⟨w.heap.size, 1, none⟩ = some (.slice Na rows.length nc) := by go_simp
  have c2 : ((w.alloc (amachO L Na rows.length nc Aa accs.length ac)).alloc (.cells #[.int .i64 n, .slice P ps.length cP, .int .i64 tot] 60)).cell? ⟨w.heap.size, 2, none⟩ = some (.slice Aa accs.length ac) := by go_simp
  have c3 : ((w.alloc (amachO L Na rows.length nc Aa accs.length ac)).alloc (.cells #[.int .i64 n, .slice P ps.length cP, .int .i64 tot] 60)).cell? ⟨w.heap.size + 1, 0, none⟩ = some (.int .i64 n) := by go_simp
  have c4 : ((w.alloc (amachO L Na rows.length nc Aa accs.length ac)).alloc (.cells #[.int .i64 n, .slice P ps.length cP, .int .i64 tot] 60)).cell? ⟨w.heap.size + 1, 1, none⟩ = some (.slice P ps.length cP) := by go_simp
  have hA2 : Below ((w.alloc (amachO L Na rows.length nc Aa accs.length ac)).alloc (.cells #[.int .i64 n, .slice P ps.length cP, .int .i64 tot] 60)).heap.size ((w.alloc (amachO L Na rows.length nc Aa accs.length ac)).alloc (.cells #[.int .i64 n, .slice P ps.length cP, .int .i64 tot] 60)) (((w.alloc (amachO L Na rows.length nc Aa accs.length ac)).alloc (.cells #[.int .i64 n, .slice P ps.length cP, .int .i64 tot] 60)).alloc (amachO L Na rows.length nc Aa accs.length ac)) := (Below.refl _ _).alloc (Nat.le_refl _) _
  have d0 := (hA2.cell (cell_lt c0)).trans c0
  have d1 := (hA2.cell (cell_lt c1)).trans c1
  have d2 := (hA2.cell (cell_lt c2)).trans c2
  have d3 := (hA2.cell (cell_lt c3)).trans c3
  have d4 := (hA2.cell (cell_lt c4)).trans c4
  have HB2 := hid (HA.out.trans (hA2.mono HA.out.size))
  cases hlg : largeM rows accs with
  | true =>
    rw [hlg] at HLg
    clear hM hMb hlg hA hA2 c0 c1 c2 c3 c4 hP
    go_enter Try.func15, Try.ntmps15
    go_wp2_with fail
    refine HLg.out.mono ?_
    rintro e w1 ⟨rfl, rfl⟩
    go_wp2_with fail
    refine (known3_any _).mono ?_
    rintro e w2 ⟨hb, rfl⟩
    have HBz := hid (HB2.out.trans (hb.mono HB2.out.size))
    go_wp2
    go_ret
    exact ⟨HBz.out, rfl⟩
  | false =>
    rw [hlg] at HLg
    by_cases hl100 : 100 < ps.length
    · have hl1 : (100 : Int) < (ps.length : Int) := by omega
      clear hM hMb hlg hA hA2 c0 c1 c2 c3 c4 hP hl100
      go_enter Try.func15, Try.ntmps15
      go_wp2_with fail
      refine HLg.out.mono ?_
      rintro e w1 ⟨rfl, rfl⟩
      go_wp2_with fail
      refine (known3_any _).mono ?_
      rintro e w2 ⟨hb, rfl⟩
      have HBz := hid (HB2.out.trans (hb.mono HB2.out.size))
      go_wp2
      go_ret
      exact ⟨HBz.out, rfl⟩
    · have hl1 : ¬ (100 : Int) < (ps.length : Int) := by omega
      obtain ⟨hmach, hr200⟩ := largeM_mach hM hlg
      have hPI := hP (by omega)
      have HP := hid (fun wx (hb : Below w.heap.size w wx) => mCheapest_any L nc ac Na Aa rows accs n P ps cP wx (hmach.below hb) (hPI.below hb))
      have HR := hid (fun wx (hb : Below w.heap.size w wx) => rCheapest_any L nc ac Na Aa rows accs n P ps cP wx (hmach.below hb) (hPI.below hb))
      unfold machV at HP HR
      clear hM hMb hlg hmach hA hA2 c0 c1 c2 c3 c4 hP hPI hl100
      generalize chL L rows accs n ps = ul at *
      generalize ptE L rows accs n ps = ue at *
      generalize chV L rows accs n ps = uv at *
      generalize chOk L rows accs n ps = ub at *
      go_enter Try.func15, Try.ntmps15
      go_wp2_with fail
      refine HLg.out.mono ?_
      rintro e w1 ⟨rfl, rfl⟩
      go_wp2_with fail
      refine (HP.out _ HB2.out).mono ?_
      rintro e w2 ⟨hb, A5, c5, rfl, hI5⟩
      have HI5 := hid hI5
      have HB3 := hid (HB2.out.trans (hb.mono HB2.out.size))
      have d0 := (hb.cell (cell_lt d0)).trans d0
      have d1 := (hb.cell (cell_lt d1)).trans d1
      have d2 := (hb.cell (cell_lt d2)).trans d2
      have d3 := (hb.cell (cell_lt d3)).trans d3
      have d4 := (hb.cell (cell_lt d4)).trans d4
      clear hb hI5
      go_wp2_with fail
      refine (HR.out _ HB3.out).mono ?_
      rintro e w3 ⟨hb, A6, c6, rfl, hI6⟩
      have HB4 := hid (HB3.out.trans (hb.mono HB3.out.size))
      have HI5b := hid (HI5.out.below hb)
      have HS := hid (sameIntsM_any A5 A6 ul ul c5 c6 w3 HI5b.out hI6)
      rw [show decide (ul = ul) = true by simp] at HS
      clear hb hI6 HP HR d0 d1 d2 d3 d4
      cases ub <;>
      · go_wp2_with fail
        refine HS.out.mono ?_
        rintro e w5 ⟨⟨n5, rfl⟩, rfl⟩
        have HB5 := hid (below_drewN HB4.out n5)
        generalize w3.drewN n5 = wd at *
        go_wp2_with fail
        refine (known3_any _).mono ?_
        rintro e w7 ⟨hb, rfl⟩
        have HBz := hid (HB5.out.trans (hb.mono HB5.out.size))
        clear hb
        go_wp2
        go_ret
        exact ⟨HBz.out, rfl⟩
end Go.Proofs.Ytkboeldafppicaa
