/- The chapter's first two examples: known of canteenlaw03. -/
import Derived.Test.YtkboeldafppicaaKnM
set_option linter.unusedVariables false
set_option linter.unusedSimpArgs false
namespace Go.Proofs.Ytkboeldafppicaa
open Go.RowKit

set_option maxRecDepth 100000 in
set_option maxHeartbeats 4000000 in
theorem known3_any (w : World) : Calls Try.prog 20 #[] w fun e w' => Below w.heap.size w w' ∧ e = .returned (.bool true) := by
  have k1 := known3_nums.1
  have k2 := known3_nums.2.1
  have k3 := known3_nums.2.2.1
  have k4 := known3_nums.2.2.2
  go_enter Try.func20, Try.ntmps20
  go_wp2_with fail
  refine (apart_any 2 2 w).mono ?_
  rintro e w1 ⟨hb1, hor⟩
  obtain ⟨i, hF, hans⟩ := (hor.resolve_right (fun h => h.1 (by decide))).2
  have hi : i = 4 := hF.unique full2
  subst hi
  rcases hans with ⟨h64, _⟩ | ⟨_, Na, nc, Aa, ac, rfl, _⟩
  · omega
  have HB1 := hid hb1
  clear hb1 hF hor
  unfold machV
  have hA2 : Below w1.heap.size w1 (w1.alloc (.cells #[.int .i64 2, .slice Na 4 nc, .slice Aa 4 ac] 25)) := (Below.refl _ _).alloc (Nat.le_refl _) _
  have n1 : (w1.alloc (.cells #[.int .i64 2, .slice Na 4 nc, .slice Aa 4 ac] 25)).cell? ⟨w1.heap.size, 1, none⟩ = some (.slice Na 4 nc) := by go_simp
  have HB2 := hid (HB1.out.trans (hA2.mono HB1.out.size))
  clear hA2
  go_wp2_with fail
  refine (apart_any 3 2 _).mono ?_
  rintro e w2 ⟨hb2, hor⟩
  obtain ⟨i, hF, hans⟩ := (hor.resolve_right (fun h => h.1 (by decide))).2
  have hi : i = 5 := hF.unique full3
  subst hi
  rcases hans with ⟨h64, _⟩ | ⟨_, Nb, nd, Ab, ad, rfl, hM⟩
  · omega
  have HM := hid hM.mach
  rw [show (canon (3 : Int).toNat (apL (3 : Int).toNat 2) 5).2.1 = rows3 from canon3.1, show (canon (3 : Int).toNat (apL (3 : Int).toNat 2) 5).2.2 = accs3 from canon3.2] at HM
  have n1 := (hb2.cell (cell_lt n1)).trans n1
  have HB3 := hid (HB2.out.trans (hb2.mono HB2.out.size))
  clear hb2 hF hM hor
  unfold machV
  have hA4 : Below w2.heap.size w2 (w2.alloc (.cells #[.int .i64 3, .slice Nb 5 nd, .slice Ab 5 ad] 25)) := (Below.refl _ _).alloc (Nat.le_refl _) _
  have HC := hid (mCount_any 3 nd ad Nb Ab rows3 accs3 3 _ (HM.out.below hA4))
  have n1 := (hA4.cell (cell_lt n1)).trans n1
  have b0 : (w2.alloc (.cells #[.int .i64 3, .slice Nb 5 nd, .slice Ab 5 ad] 25)).cell? ⟨w2.heap.size, 0, none⟩ = some (.int .i64 3) := by go_simp
  have b1 : (w2.alloc (.cells #[.int .i64 3, .slice Nb 5 nd, .slice Ab 5 ad] 25)).cell? ⟨w2.heap.size, 1, none⟩ = some (.slice Nb 5 nd) := by go_simp
  have b2 : (w2.alloc (.cells #[.int .i64 3, .slice Nb 5 nd, .slice Ab 5 ad] 25)).cell? ⟨w2.heap.size, 2, none⟩ = some (.slice Ab 5 ad) := by go_simp
  have HB4 := hid (HB3.out.trans (hA4.mono HB3.out.size))
  have HM4 := hid (HM.out.below hA4)
  rw [k1, k2, show rows3.length = 5 from rfl, show accs3.length = 5 from rfl] at HC
  unfold machV at HC
  clear hA4 k1 k2
  go_wp2_with fail
  refine HC.out.mono ?_
  rintro e w3 ⟨hb3, rfl⟩
  have n1 := (hb3.cell (cell_lt n1)).trans n1
  have b0 := (hb3.cell (cell_lt b0)).trans b0
  have b1 := (hb3.cell (cell_lt b1)).trans b1
  have b2 := (hb3.cell (cell_lt b2)).trans b2
  have HB5 := hid (HB4.out.trans (hb3.mono HB4.out.size))
  have hA5 : Below w3.heap.size w3 (w3.alloc (.cells #[.int .i64 0, .int .i64 2, .int .i64 0] 3)) := (Below.refl _ _).alloc (Nat.le_refl _) _
  have hI : Ints (w3.alloc (.cells #[.int .i64 0, .int .i64 2, .int .i64 0] 3)) (some ⟨w3.heap.size, 0, none⟩) [0, 2, 0] := ⟨by decide, .inr ⟨w3.heap.size, 0, rfl, fun i hi => by
    match i, hi with
    | 0, _ => go_simp
    | 1, _ => go_simp
    | 2, _ => go_simp⟩, by simp⟩
  have HR := hid (mRank_any 3 nd ad Nb Ab rows3 accs3 (some ⟨w3.heap.size, 0, none⟩) [0, 2, 0] 3 _ ((HM4.out.below hb3).below hA5) hI)
  have n1 := (hA5.cell (cell_lt n1)).trans n1
  have HB6 := hid (HB5.out.trans (hA5.mono HB5.out.size))
  rw [k3, k4, show rows3.length = 5 from rfl, show accs3.length = 5 from rfl, show ([0, 2, 0] : List Int).length = 3 from rfl] at HR
  unfold machV at HR
  clear hA5 hI hb3 k3 k4 HC
  go_wp2_with fail
  refine HR.out.mono ?_
  rintro e w4 ⟨hb4, rfl⟩
  have n1 := (hb4.cell (cell_lt n1)).trans n1
  have HB7 := hid (HB6.out.trans (hb4.mono HB6.out.size))
  clear hb4 HR
  go_wp2
  go_ret
  exact ⟨HB7.out, rfl⟩
end Go.Proofs.Ytkboeldafppicaa
