/- The walk of the law MenuRanks. -/
import Derived.Test.YtkboeldafppicaaKn3
import Derived.Test.YtkboeldafppicaaMRefK
import Derived.Test.YtkboeldafppicaaMUnrank
import Derived.Test.YtkboeldafppicaaMSame
import Derived.Test.YtkboeldafppicaaMLg
set_option linter.unusedVariables false
set_option linter.unusedSimpArgs false
namespace Go.Proofs.Ytkboeldafppicaa
open Go.RowKit

theorem rank_back (L : Int) (rows : List (List Int)) (accs : List Bool) (l : List Int) (h : rnkE L rows accs l = 0) : ukE L rows accs (l.length : Int) (rnkA L rows accs l) = 0 ∧ ukL L rows accs (l.length : Int) (rnkA L rows accs l) = l ∧ I64 (rnkA L rows accs l) := by
  have h0 := h
  unfold rnkE at h
  split at h
  · rename_i h1; exact absurd h h1
  · rename_i h1
    have hw : wordE L rows accs l = 0 := Classical.byContradiction h1
    obtain ⟨hV, h20, hall, n, rfl⟩ := wordE_ok hw
    obtain ⟨hg, _⟩ := vE_ok hV
    split at h
    · rename_i h2
      have hac : acF rows accs 0 l = true := by rw [acF_runK]; exact h2
      obtain ⟨k1, k2, k3⟩ := rkF_bd hg l 0 hg.pos hall hac
      have hr : rnkA n rows accs l = rkF n rows accs 0 l := by
        unfold rnkA
        rw [if_pos h0, Int.toNat_natCast, rkK_full]
      have hle : lenE n rows accs (l.length : Int) = 0 := by
        unfold lenE
        rw [if_neg (fun hh => hh hV), if_neg (by omega)]
      have hu : ukE n rows accs (l.length : Int) (rnkA n rows accs l) = 0 := by
        unfold ukE
        rw [if_neg (fun hh => hh hle), hr, if_pos]
        simp only [Int.toNat_natCast]
        exact ⟨k1, k2⟩
      refine ⟨hu, ?_, ?_⟩
      · unfold ukL
        rw [if_pos hu, hr, Int.toNat_natCast, Int.toNat_natCast, k3]
      · rw [hr]
        have := wT_small hg l.length 0 h20 hg.pos
        unfold I64; omega
    · cases h
set_option maxRecDepth 100000 in
set_option maxHeartbeats 4000000 in
theorem menuRanks_walk (L : Int) (nc ac cap : Nat) (Na Aa A : Option Addr) (rows : List (List Int)) (accs : List Bool) (l : List Int) (w : World) (hM : MachRaw w Na rows Aa accs) (hl : l.length ≤ 9223372036854775807) (hw : l.length ≤ 140737488355328 → Ints w A l) (hcap : l.length ≤ cap) :
    Calls Try.prog 11 #[.agg #[.int .i64 L, .slice Na rows.length nc, .slice Aa accs.length ac], .slice A l.length cap] w fun e w' => Below w.heap.size w w' ∧ e = .returned (.bool true) := by
  have hrl := hM.1
  have hal := hM.2.1
  have hA : Below w.heap.size w (w.alloc (amachO L Na rows.length nc Aa accs.length ac)) := (Below.refl _ _).alloc (Nat.le_refl _) _
  have HA := hid hA
  have hMb : MachRaw (w.alloc (amachO L Na rows.length nc Aa accs.length ac)) Na rows Aa accs := hM.below hA
  have HLg := hid (lLarge_any L nc ac Na Aa rows accs _ hMb)
  unfold machV at HLg
  have c0 : (w.alloc (amachO L Na rows.length nc Aa accs.length ac)).cell? ⟨w.heap.size, 0, none⟩ = some (.int .i64 L) := by go_simp
  have c1 : (w.alloc (amachO L Na rows.length nc Aa accs.length ac)).cell? ⟨w.heap.size, 1, none⟩ = some (.slice Na rows.length nc) := by go_simp
  have c2 : (w.alloc (amachO L Na rows.length nc Aa accs.length ac)).cell? ⟨w.heap.size, 2, none⟩ = some (.slice Aa accs.length ac) := by go_simp
  have hA2 : Below (w.alloc (amachO L Na rows.length nc Aa accs.length ac)).heap.size (w.alloc (amachO L Na rows.length nc Aa accs.length ac)) ((w.alloc (amachO L Na rows.length nc Aa accs.length ac)).alloc (amachO L Na rows.length nc Aa accs.length ac)) := (Below.refl _ _).alloc (Nat.le_refl _) _
  have d0 := (hA2.cell (cell_lt c0)).trans c0
  have d1 := (hA2.cell (cell_lt c1)).trans c1
  have d2 := (hA2.cell (cell_lt c2)).trans c2
  have HB2 := hid (HA.out.trans (hA2.mono HA.out.size))
  cases hlg : largeM rows accs with
  | true =>
    rw [hlg] at HLg
    clear hM hw hMb hlg hA hA2 c0 c1 c2
    go_enter Try.func11, Try.ntmps11
    go_wp2_with fail
    refine HLg.out.mono ?_
    rintro e w1 ⟨rfl, rfl⟩
    go_wp2_with fail
    refine (known3_any _).mono ?_
    rintro e w2 ⟨hb, rfl⟩
    have HBz := hid (HB2.out.trans (hb.mono HB2.out.size))
    go_wp2
    go_ret
    exact ⟨HBz.out, rfl⟩
  | false =>
    obtain ⟨hmach, hr200⟩ := largeM_mach hM hlg
    rw [hlg] at HLg
    have HMc := hid hmach
    have HW := hid hw
    clear hM hw hMb hlg hmach hA hA2 c0 c1 c2
    by_cases h200 : 200 < l.length
    · have HLo := hid (fun wx => by have := llong_any A l.length cap wx hl; rw [decide_eq_true h200] at this; exact this)
      go_enter Try.func11, Try.ntmps11
      go_wp2_with fail
      refine HLg.out.mono ?_
      rintro e w1 ⟨rfl, rfl⟩
      go_wp2_with fail
      refine (HLo.out _).mono ?_
      rintro e w1 ⟨rfl, rfl⟩
      go_wp2_with fail
      refine (known3_any _).mono ?_
      rintro e w2 ⟨hb, rfl⟩
      have HBz := hid (HB2.out.trans (hb.mono HB2.out.size))
      go_wp2
      go_ret
      exact ⟨HBz.out, rfl⟩
    · have HLo := hid (fun wx => by have := llong_any A l.length cap wx hl; rw [decide_eq_false h200] at this; exact this)
      have HI := hid (HW.out (by omega))
      have HP := hid (fun wx (hb : Below w.heap.size w wx) => mRank_any L nc ac Na Aa rows accs A l cap wx (HMc.out.below hb) (HI.out.below hb))
      have HR := hid (fun wx (hb : Below w.heap.size w wx) => rRank_any L nc ac Na Aa rows accs A l cap wx (HMc.out.below hb) (HI.out.below hb) hcap)
      have HUk := hid (fun wx (hb : Below w.heap.size w wx) (hx : I64 (rnkA L rows accs l)) => mUnrank_any L nc ac Na Aa rows accs (l.length : Int) (rnkA L rows accs l) wx (HMc.out.below hb) hx)
      have HBk := hid (rank_back L rows accs l)
      unfold machV at HP HR HUk
      generalize rnkA L rows accs l = ra at *
      generalize rnkE L rows accs l = re at *
      go_enter Try.func11, Try.ntmps11
      go_wp2_with fail
      refine HLg.out.mono ?_
      rintro e w1 ⟨rfl, rfl⟩
      go_wp2_with fail
      refine (HLo.out _).mono ?_
      rintro e w1 ⟨rfl, rfl⟩
      go_wp2_with fail
      refine (HP.out _ HB2.out).mono ?_
      rintro e w2 ⟨hb, rfl⟩
      have HB3 := hid (HB2.out.trans (hb.mono HB2.out.size))
      have d0 := (hb.cell (cell_lt d0)).trans d0
      have d1 := (hb.cell (cell_lt d1)).trans d1
      have d2 := (hb.cell (cell_lt d2)).trans d2
      clear hb
      go_wp2_with fail
      refine (HR.out _ HB3.out).mono ?_
      rintro e w3 ⟨hb, rfl⟩
      have HB4 := hid (HB3.out.trans (hb.mono HB3.out.size))
      have d0 := (hb.cell (cell_lt d0)).trans d0
      have d1 := (hb.cell (cell_lt d1)).trans d1
      have d2 := (hb.cell (cell_lt d2)).trans d2
      clear hb
      by_cases hre : re = 0
      · subst hre
        obtain ⟨k1, k2, k3⟩ := HBk.out rfl
        go_wp2_with fail
        refine (HUk.out _ HB4.out k3).mono ?_
        rintro e w4 ⟨hb, A5, c5, rfl, hI5⟩
        rw [k1, k2]
        rw [k2] at hI5
        have HB5 := hid (HB4.out.trans (hb.mono HB4.out.size))
        have HS := hid (sameIntsM_any A5 A l l c5 cap w4 hI5 (HI.out.below HB5.out))
        rw [show decide (l = l) = true by simp] at HS
        clear hb hI5 d0 d1 d2 k1 k2 k3
        go_wp2_with fail
        refine HS.out.mono ?_
        rintro e w5 ⟨⟨n5, rfl⟩, rfl⟩
        have HB6 := hid (below_drewN HB5.out n5)
        generalize w4.drewN n5 = wd at *
        go_wp2_with fail
        refine (known3_any _).mono ?_
        rintro e w6 ⟨hb, rfl⟩
        have HBz := hid (HB6.out.trans (hb.mono HB6.out.size))
        clear hb
        go_wp2
        go_ret
        exact ⟨HBz.out, rfl⟩
      · have hre' : (re != 0) = true := by simpa using hre
        clear d0 d1 d2 hre
        go_wp2_with fail
        refine (known3_any _).mono ?_
        rintro e w4 ⟨hb, rfl⟩
        have HBz := hid (HB4.out.trans (hb.mono HB4.out.size))
        clear hb
        go_wp2
        go_ret
        exact ⟨HBz.out, rfl⟩
end Go.Proofs.Ytkboeldafppicaa
