/- The document's own answer for the days of a menu. -/
import Derived.Test.YtijfcifoemndeaaRefMenu
import Derived.Test.YtijfcifoemndeaaDaysLaw
set_option linter.unusedVariables false
namespace Go.Proofs.Ytijfcifoemndeaa
open Go.RowKit

theorem daysL_eq (L : Int) (rs cs : List Int) (m f k x : Int) : daysL L rs cs m f k x =
    if checkC L rs cs [(m, f, k)] ≠ 0 then ([], checkC L rs cs [(m, f, k)]) else if inB x 0 (m - 1) = false then ([], 1) else (rdw x (rst rs cs m k f L.toNat).2 L.toNat, 0) := by
  unfold daysL
  split
  · rfl
  · rename_i hz
    have hokc := validC_ok (checkC_zero (by simpa using hz)).2
    have e : isMenuB m x = inB x 0 (m - 1) := by unfold isMenuB inB; rw [decide_eq_decide]; omega
    rw [e]
    split
    · rfl
    · rename_i hi
      rw [mdays, dw_rdw rs cs m k f x hokc.2.2.2.2 (by simp [inB] at hi; omega)]

set_option maxRecDepth 100000 in
set_option maxHeartbeats 4000000 in
theorem rdays_any (L : Int) (ra : Option Addr) (rs : List Int) (rc : Nat) (ca : Option Addr) (cs : List Int) (cc : Nat) (m f k x : Int) (w : World) (h : TermAt w L ra rs ca cs) :
  Calls Try.prog 34 #[.agg #[.int .i64 L, .slice ra rs.length rc, .slice ca cs.length cc], .agg #[.int .i64 m, .int .i64 f, .int .i64 k], .int .i64 x] w (OwnERes w w.heap.size (daysL L rs cs m f k x)) := by
  have hB0 := ((Below.refl w.heap.size w).alloc (Nat.le_refl _) (.cells #[.int .i64 L, .slice ra rs.length rc, .slice ca cs.length cc] 24)).alloc (by simp) (.cells #[.int .i64 m, .int .i64 f, .int .i64 k] 26)
  have hA := h.below hB0
  obtain ⟨i0, hi, hz0, hz1, hz2⟩ := info_parts int_info
  by_cases hz : checkC L rs cs [(m, f, k)] = 0
  · obtain ⟨hv, hca⟩ := checkC_zero hz
    have HM := hid (show daysL L rs cs m f k x = _ from by rw [daysL_eq, if_neg (by simp [hz])])
    have HZ := hid hz
    have hma := validC_ok hca
    have hok := validT_ok hv
    have WM := hid (show wrap64 (m - 1) = m - 1 by have := hma.1; have := hma.2.1; unfold wrap64; omega)
    have hm1 := hma.1
    have hm2 := hma.2.1
    have hL1 := hok.1
    have hL2 := hok.2.1
    have HC := hid hca
    have hok2 := hid hok
    have hma2 := hid hma
    clear hz hv hca hok hma
    cases hx : inB x 0 (m - 1) with
    | false =>
      have HM2 := hid (show daysL L rs cs m f k x = ([], 1) by rw [HM.out, if_pos hx])
      go_enter Try.func34, Try.ntmps34
      go_wp2_with fail
      refine (both_any L ra rs rc ca cs cc m f k _ hA).mono ?_
      rintro en w1 ⟨hb, rfl⟩
      have p1 := hB0.trans (hb.mono (by simp; omega))
      obtain ⟨d1, d2⟩ := bcell hb
      simp only [World.size_alloc] at d1 d2
      rw [HZ.out]
      go_wp2_with fail
      refine (within_any _ _ _ _).mono ?_
      rintro en w' ⟨rfl, rfl⟩
      rw [hx]
      go_wp2
      refine bodyPost_ret (v := .tuple #[.slice none 0 0, .int .i64 1]) (by simp [results, Try.results34, go_sem]) rfl ⟨p1, _, by rw [HM2.out], by rw [HM2.out]; exact Own.nil _ _⟩
    | true =>
      obtain ⟨n, rfl⟩ : ∃ n : Nat, L = n := ⟨L.toNat, by omega⟩
      have HM2 := hid (show daysL n rs cs m f k x = (rdw x (rst rs cs m k f n).2 n, 0) by rw [HM.out, if_neg (by simp [hx])]; simp)
      have HLn := hid (rst_len rs cs m k f n)
      have HVn := hid (rst_vals rs cs m k f hm1 hm2 hma2.out.2.2.1 hma2.out.2.2.2.1 n)
      clear HM
      go_enter Try.func34, Try.ntmps34
      go_wp2_with fail
      refine (both_any _ ra rs rc ca cs cc m f k _ hA).mono ?_
      rintro en w1 ⟨hb, rfl⟩
      have p1 := hB0.trans (hb.mono (by simp; omega))
      have hs1 := hb.size
      simp only [World.size_alloc] at hs1
      obtain ⟨d1, d2⟩ := bcell hb
      simp only [World.size_alloc] at d1 d2
      have a0 : w1.cell? ⟨w.heap.size, 0, none⟩ = some (.int .i64 n) := by rw [d1 _ _ (by omega)]; go_simp
      have a1 : w1.cell? ⟨w.heap.size, 1, none⟩ = some (.slice ra rs.length rc) := by rw [d1 _ _ (by omega)]; go_simp
      have a2 : w1.cell? ⟨w.heap.size, 2, none⟩ = some (.slice ca cs.length cc) := by rw [d1 _ _ (by omega)]; go_simp
      have b0 : w1.cell? ⟨w.heap.size + 1, 0, none⟩ = some (.int .i64 m) := by rw [d1 _ _ (by omega)]; go_simp
      have b1 : w1.cell? ⟨w.heap.size + 1, 1, none⟩ = some (.int .i64 f) := by rw [d1 _ _ (by omega)]; go_simp
      have b2 : w1.cell? ⟨w.heap.size + 1, 2, none⟩ = some (.int .i64 k) := by rw [d1 _ _ (by omega)]; go_simp
      clear d1 d2
      rw [HZ.out]
      go_wp2_with fail
      refine (within_any _ _ _ _).mono ?_
      rintro en w' ⟨rfl, rfl⟩
      rw [hx]
      go_wp2_with fail
      refine (rmenus_any n _ _ _ _ _ _ _ _ _ _ (h.below p1) (by omega) HC.out).mono ?_
      rintro e w3 ⟨hb3, v, rfl, hown⟩
      have p3 := p1.trans (hb3.mono p1.size)
      obtain ⟨a, cap, rfl, hin⟩ := hown.ints (by rw [HLn.out]; omega) HVn.out
      rw [HLn.out]
      rcases hin.at_ with e | ⟨bb, off, rfl, hcell⟩
      · have := HLn.out; rw [e] at this; simp at this; omega
      have hbl := cell_lt (hcell 0 (by rw [HLn.out]; omega))
      have HCell := hid hcell
      clear hcell hin hown
      go_wp2
      go_loopw [9, 11] (fun o i wr => ∃ j : Nat, j ≤ n ∧ i = .int .i64 j ∧ wr.ownsRow w3.heap.size 3 1 o (rdw x (rst rs cs m k f n).2 j).length ((rdw x (rst rs cs m k f n).2 j).map (Value.int .i64)) ∧ Below w3.heap.size w3 wr) (fun _ i _ => n - (intOf i).toNat)
      case atStart => exact ⟨0, Nat.zero_le _, rfl, ⟨rfl, .inl ⟨rfl, rfl⟩⟩, Below.refl _ _⟩
      case round =>
        obtain ⟨j, hj, rfl, hown, hB⟩ := hrel
        by_cases hlt : j < n
        · have c0 : wr.cell? ⟨bb, off + j, none⟩ = some (.int .i64 ((rst rs cs m k f n).2[j]?.getD 0)) := by
            rw [hB.cell (by simpa using hbl)]; exact HCell.out j (by rw [HLn.out]; omega)
          have hrl := rdw_len x (rst rs cs m k f n).2 j
          have HR := hid (show rdw x (rst rs cs m k f n).2 (j + 1) = _ from rfl)
          by_cases he : (rst rs cs m k f n).2[j]?.getD 0 = x
          · have he' : ((rst rs cs m k f n).2[j]?.getD 0 == x) = true := by simp [he]
            have HR2 := hid (show rdw x (rst rs cs m k f n).2 (j + 1) = rdw x (rst rs cs m k f n).2 j ++ [(j : Int)] by rw [rdw, if_pos he])
            clear he HR
            generalize (rst rs cs m k f n).2[j]?.getD 0 = y at *
            generalize rdw x (rst rs cs m k f n).2 j = pre at *
            go_wp2_with (at_builtin; refine wpList_append_own _ rfl _ _ 22 rfl w3.heap.size 3 i0 (.int .i64 0) 1 8 Try.underlying22 hi hz0 hz1 hz2 rfl (by decide) _ _ _ rfl (hown.alloc _) ⟨wr.heap.size, 0, none⟩ 1 1 [.int .i64 (j : Int)] rfl rfl ?c1 ?c2 ?c3 ?c4 ?c5 ?_)
            case c1 => exact cell_one_new _ _ _
            case c2 => simp [Value.oneCell']
            case c3 => unfold maxLen; omega
            case c4 => omega
            case c5 => have := hB.size; simp; omega
            intro v' w4 hown2 hgrow _
            have p4 := (hB.alloc hB.size _).grown hgrow (by have := hB.size; simp; omega) (fun q hq => by have := (hown.lt q hq).1; omega)
            clear hgrow hown
            go_wp2
            go_roundw
            case rel => exact ⟨j + 1, by omega, by go_num, by rw [HR2.out]; simpa using hown2, p4⟩
            case measure => simp [intOf]; omega
          · have he' : ((rst rs cs m k f n).2[j]?.getD 0 == x) = false := by simp [he]
            have HR2 := hid (show rdw x (rst rs cs m k f n).2 (j + 1) = rdw x (rst rs cs m k f n).2 j by rw [rdw, if_neg he]; simp)
            clear he HR
            generalize (rst rs cs m k f n).2[j]?.getD 0 = y at *
            go_wp2
            go_roundw
            case rel => exact ⟨j + 1, by omega, by go_num, by rw [HR2.out]; exact hown, hB⟩
            case measure => simp [intOf]; omega
        · obtain rfl : j = n := by omega
          have hs3 := p3.size
          go_wp2
          refine bodyPost_ret (v := .tuple #[u9, .int .i64 0]) (by simp [results, Try.results34, go_sem]) rfl ⟨p3.trans (hB.mono p3.size), _, by rw [HM2.out], by rw [HM2.out]; exact own_weak hown p3.size⟩
  · have hz' : (checkC L rs cs [(m, f, k)] != 0) = true := by simp [hz]
    have HM := hid (show daysL L rs cs m f k x = ([], checkC L rs cs [(m, f, k)]) from by rw [daysL, if_pos hz])
    clear hz
    go_enter Try.func34, Try.ntmps34
    go_wp2_with fail
    refine (both_any L ra rs rc ca cs cc m f k _ hA).mono ?_
    rintro en w1 ⟨hb, rfl⟩
    have p1 := hB0.trans (hb.mono (by simp; omega))
    go_wp2
    refine bodyPost_ret (v := .tuple #[.slice none 0 0, .int .i64 (checkC L rs cs [(m, f, k)])]) (by simp [results, Try.results34, go_sem]) rfl ⟨p1, _, by rw [HM.out], by rw [HM.out]; exact Own.nil _ _⟩

end Go.Proofs.Ytijfcifoemndeaa
