/- The law TermEven: its walk. -/
import Derived.Test.YtijfcifoemndeaaLong
import Derived.Test.YtijfcifoemndeaaDaysLawW
import Derived.Test.YtijfcifoemndeaaCounts
import Derived.Test.YtijfcifoemndeaaEvenM
set_option linter.unusedVariables false
namespace Go.Proofs.Ytijfcifoemndeaa
open Go.RowKit

theorem servedL_err (L : Int) (rs cs : List Int) (m f k : Int) (h : (servedL L rs cs m f k).2 ≠ 0) : (servedL L rs cs m f k).1 = [] := by
  unfold servedL at h ⊢
  split
  · rfl
  · rename_i hh; rw [if_neg hh] at h; exact absurd rfl h
theorem servedL_even (L : Int) (rs cs : List Int) (m f k : Int) (h : (servedL L rs cs m f k).2 = 0) :
    0 < (servedL L rs cs m f k).1.length ∧ (servedL L rs cs m f k).1.length ≤ 40 ∧ (countL L rs cs 0 L).2 = 0 ∧ (servedL L rs cs m f k).1.sum = (countL L rs cs 0 L).1 ∧ (k = 0 → ∀ a ∈ (servedL L rs cs m f k).1, ∀ b ∈ (servedL L rs cs m f k).1, a ≤ b + 1) := by
  unfold servedL at h ⊢
  split at h
  · rename_i hz; exact absurd h hz
  · rename_i hz
    rw [if_neg hz]
    have hok := validT_ok (checkC_zero (by simpa using hz)).1
    have hv := (checkC_zero (by simpa using hz)).1
    have hma := validC_ok (checkC_zero (by simpa using hz)).2
    dsimp only
    refine ⟨by rw [srv_len]; omega, by rw [srv_len]; omega, ?_, ?_, ?_⟩
    · rw [countL, if_neg (by simp [hv]), if_neg (by omega)]
    · rw [countL, if_neg (by simp [hv]), if_neg (by omega), srv_sum _ _ (fun y hy => by
        have := mst_vals rs cs m k f hma.2.2.2.2 hma.1 hma.2.2.1 hma.2.2.2.1 L.toNat y hy
        omega)]
      dsimp only
      have := mst_length rs cs m k f L.toNat
      rw [show ((L.toNat : Nat) : Int) = L by omega] at this
      exact this
    · rintro rfl a ha b hb
      simp only [srv, List.mem_map, List.mem_range] at ha hb
      obtain ⟨i, hi, rfl⟩ := ha
      obtain ⟨j, hj, rfl⟩ := hb
      exact even_all rs cs m f hma.1 hma.2.2.1 hma.2.2.2.1 L.toNat i j (by omega) (by omega)
theorem sum_take (sl : List Int) (h : ∀ d ∈ sl, 0 ≤ d ∧ d ≤ 1000) (k : Nat) (hk : k < sl.length) : (sl.take (k + 1)).sum = (sl.take k).sum + sl[k]?.getD 0 := by
  rw [List.take_succ_eq_append_getElem hk, List.sum_append, List.getElem?_eq_getElem hk]
  simp
theorem sum_bd (sl : List Int) (h : ∀ d ∈ sl, 0 ≤ d ∧ d ≤ 1000) (k : Nat) (hk : k ≤ sl.length) : 0 ≤ (sl.take k).sum ∧ (sl.take k).sum ≤ k * 1000 := by
  induction k with
  | zero => simp
  | succ k ih =>
    have h1 := h (sl[k]?.getD 0) (getD_mem sl k (by omega))
    rw [sum_take sl h k (by omega)]
    have := ih (by omega)
    omega

set_option maxRecDepth 100000 in
set_option maxHeartbeats 4000000 in
theorem even_walk (L : Int) (ra : Option Addr) (rs : List Int) (rc : Nat) (ca : Option Addr) (cs : List Int) (cc : Nat) (m f k : Int) (w : World)
  (h1 : rs.length ≤ 9223372036854775807) (h2 : cs.length ≤ 9223372036854775807) (hT : rs.length ≤ 140737488355328 → cs.length ≤ 140737488355328 → TermAt w L ra rs ca cs) :
  Calls Try.prog 8 #[.agg #[.int .i64 L, .slice ra rs.length rc, .slice ca cs.length cc], .agg #[.int .i64 m, .int .i64 f, .int .i64 k]] w (BoolR w true) := by
  have hB := ((Below.refl w.heap.size w).alloc (Nat.le_refl _) (.cells #[.int .i64 L, .slice ra rs.length rc, .slice ca cs.length cc] 24)).alloc (by simp) (.cells #[.int .i64 m, .int .i64 f, .int .i64 k] 26)
  cases hl : longB rs cs with
  | true =>
    go_enter Try.func8, Try.ntmps8
    go_wp2_with fail
    refine (long_any _ _ _ _ _ _ _ _ h1 h2).mono ?_
    rintro e w1 ⟨q1, rfl⟩
    have p1 := hB.trans (q1.mono (by simp; omega))
    rw [hl]
    go_wp2_with fail
    refine (known_any _).mono ?_
    rintro e w2 ⟨q2, rfl⟩
    go_wp2
    go_ret
    exact ⟨p1.trans (q2.mono p1.size), rfl⟩
  | false =>
    have hlen := longB_false hl
    have hT' := hT (by omega) (by omega)
    clear hT
    have HS := hid (servedL_facts L rs cs m f k)
    have HE := hid (servedL_err L rs cs m f k)
    have HV := hid (servedL_even L rs cs m f k)
    go_enter Try.func8, Try.ntmps8
    go_wp2_with fail
    refine (long_any _ _ _ _ _ _ _ _ h1 h2).mono ?_
    rintro e w1 ⟨q1, rfl⟩
    have p1 := hB.trans (q1.mono (by simp; omega))
    obtain ⟨d1, d2⟩ := bcell q1
    have hs1 := q1.size
    simp only [World.size_alloc] at d1 d2 hs1
    have a0 : w1.cell? ⟨w.heap.size, 0, none⟩ = some (.int .i64 L) := by rw [d1 _ _ (by omega)]; go_simp
    have a1 : w1.cell? ⟨w.heap.size, 1, none⟩ = some (.slice ra rs.length rc) := by rw [d1 _ _ (by omega)]; go_simp
    have a2 : w1.cell? ⟨w.heap.size, 2, none⟩ = some (.slice ca cs.length cc) := by rw [d1 _ _ (by omega)]; go_simp
    have b0 : w1.cell? ⟨w.heap.size + 1, 0, none⟩ = some (.int .i64 m) := by rw [d1 _ _ (by omega)]; go_simp
    have b1 : w1.cell? ⟨w.heap.size + 1, 1, none⟩ = some (.int .i64 f) := by rw [d1 _ _ (by omega)]; go_simp
    have b2 : w1.cell? ⟨w.heap.size + 1, 2, none⟩ = some (.int .i64 k) := by rw [d1 _ _ (by omega)]; go_simp
    clear d1 d2
    rw [hl]
    go_wp2_with fail
    refine (served_any _ _ _ _ _ _ _ _ _ _ _ (hT'.below p1)).mono ?_
    rintro e w2 ⟨q2, v2, rfl, o2⟩
    have p2 := p1.trans (q2.mono p1.size)
    have hs2 := q2.size
    rw [← q2.cell (by simp; omega)] at a0 a1 a2 b0 b1 b2
    obtain ⟨A2, c2, rfl, i2⟩ := o2.ints (by have := HS.out.1; omega) (fun d hd => by have := HS.out.2 d hd; omega)
    clear o2
    generalize servedL L rs cs m f k = sl at *
    obtain ⟨sl, se⟩ := sl
    simp only at *
    by_cases hse : se = 0
    · subst hse
      obtain ⟨v1, v2, v3, v4, v5⟩ := HV.out rfl
      have hse' : ((0 : Int) != 0) = false := rfl
      have hl0 : ((sl.length : Int) == 0) = false := by simp; intro e; rw [e] at v1; simp at v1
      have H5 := hid v5
      have H4 := hid v4
      have H3 := hid v3
      clear v3 v4 v5 HV HE
      go_wp2_with fail
      refine (count_any _ _ _ _ _ _ _ _ _ _ (hT'.below p2)).mono ?_
      rintro e w3 ⟨q3, rfl⟩
      have p3 := p2.trans (q3.mono p2.size)
      have hs3 := q3.size
      rw [← q3.cell (by simp; omega)] at a0 a1 a2 b0 b1 b2
      have i3 := i2.below q3
      rw [H3.out, ← H4.out]
      rcases i3.at_ with e | ⟨bb, off, rfl, hcell⟩
      · rw [e] at v1; simp at v1
      have c0 := hcell 0 v1
      rw [Nat.add_zero] at c0
      have HCell := hid hcell
      have HB0 := hid (HS.out.2 (sl[0]?.getD 0) (getD_mem sl 0 v1))
      have HM0 := hid (getD_mem sl 0 v1)
      have hbl := cell_lt c0
      have hpos : (0 : Int) < (sl.length : Int) := by omega
      have hsum := sum_bd sl HS.out.2 sl.length (Nat.le_refl _)
      rw [List.take_length] at hsum
      have HSum := hid (show sl.sum = (sl.take sl.length).sum by rw [List.take_length])
      clear hcell i2 i3
      generalize sl[0]?.getD 0 = x0 at *
      generalize sl.sum = total at *
      go_wp2
      go_quiet (fail)
      go_wp2
      go_loopw [9, 10, 11, 12] (fun lo hi su i wr => ∃ (j n : Nat) (x y : Int), j ≤ sl.length ∧ i = .int .i64 j ∧ lo = .int .i64 x ∧ hi = .int .i64 y ∧ Hid (x ∈ sl) ∧ Hid (y ∈ sl) ∧ su = .int .i64 (sl.take j).sum ∧ Hid (wr = w3.drewN n)) (fun _ _ _ i _ => sl.length - (intOf i).toNat)
      case atStart => exact ⟨0, nq, x0, x0, Nat.zero_le _, rfl, rfl, rfl, HM0.out, HM0.out, rfl, rfl⟩
      case round =>
        obtain ⟨j, n, x, y, hj, rfl, rfl, rfl, HX, HY, rfl, hw⟩ := hrel
        have hw' := hw.out
        subst hw'
        clear hw
        have hbs := sum_bd sl HS.out.2 j hj
        have hbx := HS.out.2 x HX.out
        have hby := HS.out.2 y HY.out
        by_cases hlt : j < sl.length
        · have cj : w3.cell? ⟨bb, off + j, none⟩ = some (.int .i64 (sl[j]?.getD 0)) := HCell.out j hlt
          have hbz := HS.out.2 (sl[j]?.getD 0) (getD_mem sl j hlt)
          have HZ := hid (getD_mem sl j hlt)
          have HT := hid (sum_take sl HS.out.2 j hlt)
          generalize sl[j]?.getD 0 = z at *
          generalize (sl.take j).sum = sj at *
          by_cases hz1 : z < x <;> by_cases hz2 : y < z
          all_goals
            go_wp2
            go_quiet (fail)
            go_wp2
            go_roundw
            case rel => exact ⟨j + 1, _, _, _, by omega, by go_num, rfl, rfl, (by first | exact HZ | exact HX), (by first | exact HZ | exact HY), by rw [HT.out], rfl⟩
            case measure => simp [intOf]; omega
        · obtain rfl : j = sl.length := by omega
          have hst : (sl.take sl.length).sum = total := HSum.out.symm
          rw [hst]
          clear hst hbs
          have hBn : Below w.heap.size w (w3.drewN n) := below_drewN p3 n
          by_cases hk : k = 0
          · subst hk
            have hyx : y ≤ x + 1 := H5.out rfl y HY.out x HX.out
            go_wp2_with fail
            refine (known_any _).mono ?_
            rintro e w10 ⟨q10, rfl⟩
            go_wp2
            go_ret
            exact ⟨hBn.trans (q10.mono hBn.size), rfl⟩
          · have hk' : (k != 0) = true := by simp [hk]
            clear hk
            go_wp2_with fail
            refine (known_any _).mono ?_
            rintro e w10 ⟨q10, rfl⟩
            go_wp2
            go_ret
            exact ⟨hBn.trans (q10.mono hBn.size), rfl⟩
    · have hse' : (se != 0) = true := by simp [hse]
      have hnil := HE.out hse
      subst hnil
      clear hse
      go_wp2_with fail
      refine (known_any _).mono ?_
      rintro e w3 ⟨q3, rfl⟩
      go_wp2
      go_ret
      exact ⟨p2.trans (q3.mono p2.size), rfl⟩

end Go.Proofs.Ytijfcifoemndeaa
