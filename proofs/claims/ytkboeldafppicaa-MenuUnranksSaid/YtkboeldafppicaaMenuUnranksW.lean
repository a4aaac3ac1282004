/- The walk of the law MenuUnranks. -/
import Derived.Test.YtkboeldafppicaaKn3
import Derived.Test.YtkboeldafppicaaMRefK
import Derived.Test.YtkboeldafppicaaMRefU
import Derived.Test.YtkboeldafppicaaMSame
import Derived.Test.YtkboeldafppicaaMOpen
set_option linter.unusedVariables false
set_option linter.unusedSimpArgs false
namespace Go.Proofs.Ytkboeldafppicaa
open Go.RowKit

theorem unrank_back (L : Int) (rows : List (List Int)) (accs : List Bool) (n r : Int) (h : ukE L rows accs n r = 0) : rnkE L rows accs (ukL L rows accs n r) = 0 ∧ rnkA L rows accs (ukL L rows accs n r) = r := by
  have h0 := h
  unfold ukE at h
  split at h
  · rename_i h1; exact absurd h h1
  · rename_i h1
    have hl : lenE L rows accs n = 0 := Classical.byContradiction h1
    obtain ⟨hV, ⟨m, rfl, hm⟩, l, rfl⟩ := lenE_ok hl
    obtain ⟨hg, _⟩ := vE_ok hV
    split at h
    · rename_i h2
      simp only [Int.toNat_natCast] at h2
      obtain ⟨k1, k2, k3, k4⟩ := urD_spec hg m 0 r hg.pos h2.1 h2.2
      have hu : ukL l rows accs m r = urD l rows accs m 0 r := by
        unfold ukL
        rw [if_pos h0, Int.toNat_natCast, Int.toNat_natCast]
      have hw : wordE l rows accs (urD l rows accs m 0 r) = 0 := by
        unfold wordE lE
        rw [if_neg (fun hh => hh hV), if_neg (by omega), if_pos k2]
      have hr : rnkE l rows accs (urD l rows accs m 0 r) = 0 := by
        unfold rnkE
        rw [if_neg (fun hh => hh hw), if_pos]
        rw [← acF_runK]; exact k3
      rw [hu]
      refine ⟨hr, ?_⟩
      unfold rnkA
      rw [if_pos hr, Int.toNat_natCast, rkK_full, k4]
    · cases h
set_option maxRecDepth 100000 in
set_option maxHeartbeats 4000000 in
theorem menuUnranks_walk (L : Int) (nc ac : Nat) (Na Aa : Option Addr) (rows : List (List Int)) (accs : List Bool) (n r : Int) (w : World) (hM : MachRaw w Na rows Aa accs) (hr : -9223372036854775808 ≤ r ∧ r ≤ 9223372036854775807) :
    Calls Try.prog 12 #[.agg #[.int .i64 L, .slice Na rows.length nc, .slice Aa accs.length ac], .agg #[.int .i64 n, .int .i64 r]] w fun e w' => Below w.heap.size w w' ∧ e = .returned (.bool true) := by
  have hrl := hM.1
  have hal := hM.2.1
  have hA : Below w.heap.size w ((w.alloc (amachO L Na rows.length nc Aa accs.length ac)).alloc (.cells #[.int .i64 n, .int .i64 r] 57)) := ((Below.refl _ _).alloc (Nat.le_refl _) _).alloc (by simp) _
  have HA := hid hA
  have hMb := hM.below hA
  have HLg := hid (lLarge_any L nc ac Na Aa rows accs _ hMb)
  unfold machV at HLg
  have c0 : ((w.alloc (amachO L Na rows.length nc Aa accs.length ac)).alloc (.cells #[.int .i64 n, .int .i64 r] 57)).cell? ⟨w.heap.size, 0, none⟩ = some (.int .i64 L) := by go_simp
  have c1 : ((w.alloc (amachO L Na rows.length nc Aa accs.length ac)).alloc (.cells #[.int .i64 n, .int .i64 r] 57)).cell? ⟨w.heap.size, 1, none⟩ = some (.slice Na rows.length nc) := by go_simp
  have c2 : ((w.alloc (amachO L Na rows.length nc Aa accs.length ac)).alloc (.cells #[.int .i64 n, .int .i64 r] 57)).cell? ⟨w.heap.size, 2, none⟩ = some (.slice Aa accs.length ac) := by go_simp
  have c3 : ((w.alloc (amachO L Na rows.length nc Aa accs.length ac)).alloc (.cells #[.int .i64 n, .int .i64 r] 57)).cell? ⟨w.heap.size + 1, 0, none⟩ = some (.int .i64 n) := by go_simp
  have c4 : ((w.alloc (amachO L Na rows.length nc Aa accs.length ac)).alloc (.cells #[.int .i64 n, .int .i64 r] 57)).cell? ⟨w.heap.size + 1, 1, none⟩ = some (.int .i64 r) := by go_simp
  have hA2 : Below ((w.alloc (amachO L Na rows.length nc Aa accs.length ac)).alloc (.cells #[.int .i64 n, .int .i64 r] 57)).heap.size ((w.alloc (amachO L Na rows.length nc Aa accs.length ac)).alloc (.cells #[.int .i64 n, .int .i64 r] 57)) (((w.alloc (amachO L Na rows.length nc Aa accs.length ac)).alloc (.cells #[.int .i64 n, .int .i64 r] 57)).alloc (amachO L Na rows.length nc Aa accs.length ac)) := (Below.refl _ _).alloc (Nat.le_refl _) _
  have d0 := (hA2.cell (cell_lt c0)).trans c0
  have d1 := (hA2.cell (cell_lt c1)).trans c1
  have d2 := (hA2.cell (cell_lt c2)).trans c2
  have d3 := (hA2.cell (cell_lt c3)).trans c3
  have d4 := (hA2.cell (cell_lt c4)).trans c4
  have HB2 := hid (HA.out.trans (hA2.mono HA.out.size))
  cases hlg : largeM rows accs with
  | true =>
    rw [hlg] at HLg
    clear hM hMb hlg hA hA2 c0 c1 c2 c3 c4
    go_enter Try.func12, Try.ntmps12
    go_wp2_with fail
    refine HLg.out.mono ?_
    rintro e w1 ⟨rfl, rfl⟩
    go_wp2_with fail
    refine (known3_any _).mono ?_
    rintro e w2 ⟨hb, rfl⟩
    have HBz := hid (HB2.out.trans (hb.mono HB2.out.size))
    go_wp2
    go_ret
    exact ⟨HBz.out, rfl⟩
  | false =>
    obtain ⟨hmach, hr200⟩ := largeM_mach hM hlg
    rw [hlg] at HLg
    have HMc := hid hmach
    have HP := hid (fun wx (hb : Below w.heap.size w wx) => mUnrank_any L nc ac Na Aa rows accs n r wx (hmach.below hb) hr)
    have HR := hid (fun wx (hb : Below w.heap.size w wx) => rUnrank_any L nc ac Na Aa rows accs n r wx (hmach.below hb) hr)
    have HRk := hid (fun wx A c (hb : Below w.heap.size w wx) (hI : Ints wx A (ukL L rows accs n r)) => mRank_any L nc ac Na Aa rows accs A (ukL L rows accs n r) c wx (hmach.below hb) hI)
    have HBk := hid (unrank_back L rows accs n r)
    have HNo := hid (fun (h : ukE L rows accs n r ≠ 0) => show ukL L rows accs n r = [] from if_neg h)
    unfold machV at HP HR HRk
    clear hM hMb hlg hmach hA hA2 c0 c1 c2 c3 c4
    generalize ukL L rows accs n r = ul at *
    generalize ukE L rows accs n r = ue at *
    go_enter Try.func12, Try.ntmps12
    go_wp2_with fail
    refine HLg.out.mono ?_
    rintro e w1 ⟨rfl, rfl⟩
    go_wp2_with fail
    refine (HP.out _ HB2.out).mono ?_
    rintro e w2 ⟨hb, A5, c5, rfl, hI5⟩
    have HI5 := hid hI5
    have HB3 := hid (HB2.out.trans (hb.mono HB2.out.size))
    have d0 := (hb.cell (cell_lt d0)).trans d0
    have d1 := (hb.cell (cell_lt d1)).trans d1
    have d2 := (hb.cell (cell_lt d2)).trans d2
    have d3 := (hb.cell (cell_lt d3)).trans d3
    have d4 := (hb.cell (cell_lt d4)).trans d4
    clear hb hI5
    go_wp2_with fail
    refine (HR.out _ HB3.out).mono ?_
    rintro e w3 ⟨hb, A6, c6, rfl, hI6⟩
    have HB4 := hid (HB3.out.trans (hb.mono HB3.out.size))
    have d0 := (hb.cell (cell_lt d0)).trans d0
    have d1 := (hb.cell (cell_lt d1)).trans d1
    have d2 := (hb.cell (cell_lt d2)).trans d2
    have d3 := (hb.cell (cell_lt d3)).trans d3
    have d4 := (hb.cell (cell_lt d4)).trans d4
    have HI5b := hid (HI5.out.below hb)
    have HS := hid (sameIntsM_any A5 A6 ul ul c5 c6 w3 HI5b.out hI6)
    rw [show decide (ul = ul) = true by simp] at HS
    clear hb hI6 HP HR
    go_wp2_with fail
    refine HS.out.mono ?_
    rintro e w5 ⟨⟨n5, rfl⟩, rfl⟩
    have HB5 := hid (below_drewN HB4.out n5)
    have HI7 := hid (HI5b.out.below (below_drewN (Below.refl _ _) n5))
    have d0 : (w3.drewN n5).cell? ⟨w.heap.size, 0, none⟩ = _ := d0
    have d1 : (w3.drewN n5).cell? ⟨w.heap.size, 1, none⟩ = _ := d1
    have d2 : (w3.drewN n5).cell? ⟨w.heap.size, 2, none⟩ = _ := d2
    have d4 : (w3.drewN n5).cell? ⟨w.heap.size + 1, 1, none⟩ = _ := d4
    generalize w3.drewN n5 = wd at *
    by_cases hue : ue = 0
    · subst hue
      obtain ⟨k1, k2⟩ := HBk.out rfl
      have HRk := hid (HRk.out wd A5 c5 HB5.out HI7.out)
      rw [k1, k2] at HRk
      clear k1 k2
      go_wp2_with fail
      refine HRk.out.mono ?_
      rintro e w6 ⟨hb, rfl⟩
      have HB6 := hid (HB5.out.trans (hb.mono HB5.out.size))
      have d4 := (hb.cell (cell_lt d4)).trans d4
      clear hb
      go_wp2_with fail
      refine (known3_any _).mono ?_
      rintro e w7 ⟨hb, rfl⟩
      have HBz := hid (HB6.out.trans (hb.mono HB6.out.size))
      clear hb
      go_wp2
      go_ret
      exact ⟨HBz.out, rfl⟩
    · have hue' : (ue != 0) = true := by simpa using hue
      obtain rfl : ul = [] := HNo.out hue
      clear hue
      go_wp2_with fail
      refine (known3_any _).mono ?_
      rintro e w7 ⟨hb, rfl⟩
      have HBz := hid (HB5.out.trans (hb.mono HB5.out.size))
      clear hb
      go_wp2
      go_ret
      exact ⟨HBz.out, rfl⟩
end Go.Proofs.Ytkboeldafppicaa
