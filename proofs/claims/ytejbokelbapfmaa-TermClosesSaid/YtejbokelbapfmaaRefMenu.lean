/- The document's own answer for menus. -/
import Derived.Test.YtejbokelbapfmaaRef2
import Derived.Test.YtejbokelbapfmaaRows2
import Derived.Test.YtejbokelbapfmaaMenusM
set_option linter.unusedVariables false
namespace Go.Proofs.Ytejbokelbapfmaa
open Go.RowKit

def Int2R' (w : World) (p : Int × Int) (en : Ending) (w' : World) : Prop := Below w.heap.size w w' ∧ en = .returned (.tuple #[.int .i64 p.1, .int .i64 p.2])
def OwnR (w : World) (base : Nat) (xs : List Int) (en : Ending) (w' : World) : Prop := Below w.heap.size w w' ∧ ∃ v, en = .returned v ∧ Own w' base v xs

set_option maxRecDepth 100000 in
set_option maxHeartbeats 4000000 in
theorem rmenus_any (n : Nat) (ra : Option Addr) (rs : List Int) (rc : Nat) (ca : Option Addr) (cs : List Int) (cc : Nat) (m f k : Int) (w : World) (h : TermAt w (n : Int) ra rs ca cs) (hn : n ≤ 1000) (hc : badC m f k = false) :
  Calls Try.prog 62 #[.agg #[.int .i64 n, .slice ra rs.length rc, .slice ca cs.length cc], .agg #[.int .i64 m, .int .i64 f, .int .i64 k]] w (OwnR w (w.heap.size + 2) (rst rs cs m k f n).2) := by
  have hok := validC_ok hc
  have hm1 := hok.1
  have hm2 := hok.2.1
  have hkk := hok.2.2.2.2
  have HB := hid (fun j => rst_bd rs cs m k f hm1 hok.2.2.1 hok.2.2.2.1 j)
  have HL := hid (fun j => rst_len rs cs m k f j)
  obtain ⟨i0, hi, hz0, hz1, hz2⟩ := info_parts int_info
  clear hok
  go_enter Try.func62, Try.ntmps62
  go_wp2
  have hB0 := ((Below.refl w.heap.size w).alloc (Nat.le_refl _) (.cells #[.int .i64 (n : Int), .slice ra rs.length rc, .slice ca cs.length cc] 24)).alloc (by simp) (.cells #[.int .i64 m, .int .i64 f, .int .i64 k] 26)
  go_loopw [5, 6, 7] (fun o x i wr => ∃ (j : Nat), j ≤ n ∧ i = .int .i64 j ∧ x = .int .i64 (rst rs cs m k f j).1 ∧ wr.ownsRow (w.heap.size + 2) 3 1 o j ((rst rs cs m k f j).2.map (Value.int .i64)) ∧ Below w.heap.size w wr ∧ w.heap.size + 2 ≤ wr.heap.size ∧
    wr.cell? ⟨w.heap.size, 0, none⟩ = some (.int .i64 n) ∧ wr.cell? ⟨w.heap.size, 1, none⟩ = some (.slice ra rs.length rc) ∧ wr.cell? ⟨w.heap.size, 2, none⟩ = some (.slice ca cs.length cc) ∧
    wr.cell? ⟨w.heap.size + 1, 0, none⟩ = some (.int .i64 m) ∧ wr.cell? ⟨w.heap.size + 1, 2, none⟩ = some (.int .i64 k)) (fun _ _ i _ => n - (intOf i).toNat)
  case atStart => exact ⟨0, Nat.zero_le _, rfl, rfl, ⟨rfl, .inl ⟨rfl, rfl⟩⟩, hB0, by simp, by go_simp, by go_simp, by go_simp, by go_simp, by go_simp⟩
  case round =>
    obtain ⟨j, hj, rfl, rfl, hown, hB, hsz, a0, a1, a2, b0, b2⟩ := hrel
    by_cases hlt : j < n
    · have hbd := HB.out j
      have HS := hid (show rst rs cs m k f (j + 1) = rstep rs cs m k (rst rs cs m k f j) (j : Int) from rfl)
      have HLj := hid (HL.out j)
      generalize rst rs cs m k f j = s at *
      have hT := h.below hB
      obtain ⟨y, hy⟩ : ∃ y, y = if openB rs cs (j : Int) then s.1 else -1 := ⟨_, rfl⟩
      have HY := hid hy
      cases ho : openB rs cs (j : Int)
      all_goals
        rw [ho] at hy
        simp only [Bool.false_eq_true, if_false, if_true] at hy
        have HY2 := hid hy
        clear hy
        go_wp2_with fail
        refine (ropen_any _ _ _ _ _ _ _ _ _ hT (by omega)).mono ?_
        rintro e w1 ⟨q1, rfl⟩
        have p1 := hB.trans (q1.mono hB.size)
        have hs1 := q1.size
        rw [← q1.cell (by simp; omega)] at a0 a1 a2 b0 b2
        have hown1 := own_below hown q1
        have hT1 := h.below p1
        have g0 : w.heap.size < w1.heap.size := by omega
        have g1 : w.heap.size + 1 < w1.heap.size := by omega
        rw [ho]
        go_wp2_with (at_builtin; refine wpList_append_own _ rfl _ _ 22 rfl (w.heap.size + 2) 3 i0 (.int .i64 0) 1 8 Try.underlying22 hi hz0 hz1 hz2 rfl (by decide) _ _ _ rfl (hown1.alloc _) ⟨w1.heap.size, 0, none⟩ 1 1 [.int .i64 y] rfl rfl ?c1 ?c2 ?c3 ?c4 ?c5 ?_)
        case c1 => rw [HY2.out]; exact cell_one_new _ _ _
        case c2 => simp [Value.oneCell']
        case c3 => unfold maxLen; omega
        case c4 => omega
        case c5 => simp; omega
        intro v' w2 hown2 hgrow _
        have hown3 : w2.ownsRow (w.heap.size + 2) 3 1 v' (j + 1) ((rst rs cs m k f (j + 1)).2.map (Value.int .i64)) := by
          rw [HS.out, rstep]
          dsimp only
          rw [List.map_append, ← HY.out]
          exact hown2
        have hne : ∀ q, q < w.heap.size + 2 → some q ≠ u5.ownBlock := fun q hq e => by have := (hown1.lt q e.symm).1; omega
        have p2 := (p1.alloc p1.size _).grown hgrow (by simp; omega) (fun q hq => by have := (hown1.lt q hq).1; omega)
        have hs2 : w1.heap.size + 1 ≤ w2.heap.size := by have := hgrow.size; simpa using this
        replace a0 := hgrow.cell ((World.cell?_alloc_past _ _ _ (by omega)).trans a0) (hne _ (by simp))
        replace a1 := hgrow.cell ((World.cell?_alloc_past _ _ _ (by omega)).trans a1) (hne _ (by simp))
        replace a2 := hgrow.cell ((World.cell?_alloc_past _ _ _ (by omega)).trans a2) (hne _ (by simp))
        replace b0 := hgrow.cell ((World.cell?_alloc_past _ _ _ (by omega)).trans b0) (hne _ (by simp))
        replace b2 := hgrow.cell ((World.cell?_alloc_past _ _ _ (by omega)).trans b2) (hne _ (by simp))
        clear hgrow hown2 hown1 hown q1 hB hT hne
        have hT2 := h.below p2
        rcases hkk with rfl | rfl
        · go_wp2_with fail
          refine (ropen_any _ _ _ _ _ _ _ _ _ hT2 (by omega)).mono ?_
          rintro e w3 ⟨q3, rfl⟩
          have p3 := p2.trans (q3.mono p2.size)
          have hs3 := q3.size
          rw [← q3.cell (by simp; omega)] at a0 a1 a2 b0 b2
          have hown4 := own_below hown3 q3
          have g2 : w.heap.size < w3.heap.size := by omega
          have g3 : w.heap.size + 1 < w3.heap.size := by omega
          have hm0 : (m == 0) = false := by simp; omega
          rw [ho]
          go_wp2
          go_roundw
          case rel => exact ⟨j + 1, by omega, by go_num, by rw [HS.out]; simp [rstep, ho], hown4, p3, by omega, a0, a1, a2, b0, b2⟩
          case measure => simp [intOf]; omega
        · cases hm : memB ((j : Int) % 7) rs
          all_goals
            go_wp2_with fail
            refine (rweekDay_any _ _ _ _ _ _ _ _ _ hT2 (by omega)).mono ?_
            rintro e w3 ⟨q3, rfl⟩
            have p3 := p2.trans (q3.mono p2.size)
            have hs3 := q3.size
            rw [← q3.cell (by simp; omega)] at a0 a1 a2 b0 b2
            have hown4 := own_below hown3 q3
            have g2 : w.heap.size < w3.heap.size := by omega
            have g3 : w.heap.size + 1 < w3.heap.size := by omega
            have hm0 : (m == 0) = false := by simp; omega
            rw [hm]
            go_wp2
            go_roundw
            case rel => exact ⟨j + 1, by omega, by go_num, by rw [HS.out]; simp [rstep, hm], hown4, p3, by omega, a0, a1, a2, b0, b2⟩
            case measure => simp [intOf]; omega
    · obtain rfl : j = n := by omega
      go_wp2
      go_ret
      exact ⟨hB, _, rfl, by unfold Own; rw [HL.out]; exact hown⟩

theorem rst_vals (rs cs : List Int) (m k f : Int) (hm : 1 ≤ m) (hm2 : m ≤ 40) (h0 : 0 ≤ f) (h1 : f < m) (n : Nat) : ∀ x ∈ (rst rs cs m k f n).2, -9223372036854775808 ≤ x ∧ x ≤ 9223372036854775807 := by
  induction n with
  | zero => intro x hx; cases hx
  | succ n ih =>
    have hb := rst_bd rs cs m k f hm h0 h1 n
    rw [rst, rstep]
    intro x hx
    rcases List.mem_append.1 hx with hx | hx
    · exact ih x hx
    · simp at hx
      split at hx <;> omega

set_option maxRecDepth 100000 in
set_option maxHeartbeats 4000000 in
theorem rmenu_any (L : Int) (ra : Option Addr) (rs : List Int) (rc : Nat) (ca : Option Addr) (cs : List Int) (cc : Nat) (m f k d : Int) (w : World) (h : TermAt w L ra rs ca cs) :
  Calls Try.prog 32 #[.agg #[.int .i64 L, .slice ra rs.length rc, .slice ca cs.length cc], .agg #[.int .i64 m, .int .i64 f, .int .i64 k], .int .i64 d] w (Int2R' w (rmenuL L rs cs m f k d)) := by
  have hB := ((Below.refl w.heap.size w).alloc (Nat.le_refl _) (.cells #[.int .i64 L, .slice ra rs.length rc, .slice ca cs.length cc] 24)).alloc (by simp) (.cells #[.int .i64 m, .int .i64 f, .int .i64 k] 26)
  have hA := h.below hB
  by_cases hz : checkC L rs cs [(m, f, k)] = 0
  · have hz' : (checkC L rs cs [(m, f, k)] != 0) = false := by simp [hz]
    obtain ⟨hv, hc⟩ := checkC_zero hz
    have hok := validT_ok hv
    have hokc := validC_ok hc
    have hL1 := hok.1
    have hL2 := hok.2.1
    have HR := hid (show rmenuL L rs cs m f k d = _ from by rw [rmenuL, if_neg (by simp [hz])])
    have HC := hid hc
    clear hz hv hc hok
    cases hd : inB d 0 (L - 1) with
    | false =>
      have HD := hid (show rmenuL L rs cs m f k d = (0, 1) by rw [HR.out, if_pos (by simp [inB] at hd; omega)])
      go_enter Try.func32, Try.ntmps32
      go_wp2_with fail
      refine (both_any _ _ _ _ _ _ _ _ _ _ _ hA).mono ?_
      rintro e w1 ⟨hb, rfl⟩
      have p1 := hB.trans (hb.mono (by simp; omega))
      obtain ⟨d1, d2⟩ := bcell hb
      simp only [World.size_alloc] at d1 d2
      go_wp2_with fail
      refine (within_any _ _ _ _).mono ?_
      rintro e w' ⟨rfl, rfl⟩
      rw [hd]
      go_wp2
      go_ret2
      exact ⟨p1, ret_ints (by rw [HD.out]) (by rw [HD.out])⟩
    | true =>
      have hd' : 0 ≤ d ∧ d < L := by simp [inB] at hd; omega
      cases ho : openB rs cs d with
      | false =>
        have HD := hid (show rmenuL L rs cs m f k d = (0, 13) by rw [HR.out, if_neg (by omega), if_pos ho])
        go_enter Try.func32, Try.ntmps32
        go_wp2_with fail
        refine (both_any _ _ _ _ _ _ _ _ _ _ _ hA).mono ?_
        rintro e w1 ⟨hb, rfl⟩
        have p1 := hB.trans (hb.mono (by simp; omega))
        obtain ⟨d1, d2⟩ := bcell hb
        simp only [World.size_alloc] at d1 d2
        go_wp2_with fail
        refine (within_any _ _ _ _).mono ?_
        rintro e w' ⟨rfl, rfl⟩
        rw [hd]
        go_wp2_with fail
        refine (ropen_any _ _ _ _ _ _ _ _ _ (h.below p1) hd'.1).mono ?_
        rintro e w2 ⟨hb2, rfl⟩
        rw [ho]
        go_wp2
        go_ret2
        exact ⟨p1.trans (hb2.mono p1.size), ret_ints (by rw [HD.out]) (by rw [HD.out])⟩
      | true =>
        obtain ⟨n, rfl⟩ : ∃ n : Nat, L = n := ⟨L.toNat, by omega⟩
        obtain ⟨i, rfl⟩ : ∃ i : Nat, d = i := ⟨d.toNat, by omega⟩
        have HD := hid (show rmenuL n rs cs m f k i = ((rst rs cs m k f n).2[i]?.getD 0, 0) by rw [HR.out, if_neg (by omega), if_neg (by simp [ho])]; simp)
        have HLn := hid (rst_len rs cs m k f n)
        have HVn := hid (rst_vals rs cs m k f hokc.1 hokc.2.1 hokc.2.2.1 hokc.2.2.2.1 n)
        go_enter Try.func32, Try.ntmps32
        go_wp2_with fail
        refine (both_any _ _ _ _ _ _ _ _ _ _ _ hA).mono ?_
        rintro e w1 ⟨hb, rfl⟩
        have p1 := hB.trans (hb.mono (by simp; omega))
        have hs1 := hb.size
        simp only [World.size_alloc] at hs1
        obtain ⟨d1, d2⟩ := bcell hb
        simp only [World.size_alloc] at d1 d2
        have a0 : w1.cell? ⟨w.heap.size, 0, none⟩ = some (.int .i64 n) := by rw [d1 _ _ (by omega)]; go_simp
        have a1 : w1.cell? ⟨w.heap.size, 1, none⟩ = some (.slice ra rs.length rc) := by rw [d1 _ _ (by omega)]; go_simp
        have a2 : w1.cell? ⟨w.heap.size, 2, none⟩ = some (.slice ca cs.length cc) := by rw [d1 _ _ (by omega)]; go_simp
        have b0 : w1.cell? ⟨w.heap.size + 1, 0, none⟩ = some (.int .i64 m) := by rw [d1 _ _ (by omega)]; go_simp
        have b1 : w1.cell? ⟨w.heap.size + 1, 1, none⟩ = some (.int .i64 f) := by rw [d1 _ _ (by omega)]; go_simp
        have b2 : w1.cell? ⟨w.heap.size + 1, 2, none⟩ = some (.int .i64 k) := by rw [d1 _ _ (by omega)]; go_simp
        clear d1 d2
        go_wp2_with fail
        refine (within_any _ _ _ _).mono ?_
        rintro e w' ⟨rfl, rfl⟩
        rw [hd]
        go_wp2_with fail
        refine (ropen_any _ _ _ _ _ _ _ _ _ (h.below p1) hd'.1).mono ?_
        rintro e w2 ⟨hb2, rfl⟩
        have p2 := p1.trans (hb2.mono p1.size)
        have hs2 := hb2.size
        rw [← hb2.cell (by simp; omega)] at a0 a1 a2 b0 b1 b2
        rw [ho]
        go_wp2_with fail
        refine (rmenus_any n _ _ _ _ _ _ _ _ _ _ (h.below p2) (by omega) HC.out).mono ?_
        rintro e w3 ⟨hb3, v, rfl, hown⟩
        have p3 := p2.trans (hb3.mono p2.size)
        obtain ⟨a, cap, rfl, hin⟩ := hown.ints (by rw [HLn.out]; omega) HVn.out
        rcases hin.at_ with e | ⟨bb, off, rfl, hcell⟩
        · have := HLn.out; rw [e] at this; simp at this; omega
        have hcl := hcell i (by rw [HLn.out]; omega)
        have hil : (i : Int) < ((rst rs cs m k f n).2.length : Int) := by rw [HLn.out]; omega
        clear hcell hin hown
        go_wp2
        go_ret2
        exact ⟨p3, ret_ints (by rw [HD.out]) (by rw [HD.out])⟩
  · have hz' : (checkC L rs cs [(m, f, k)] != 0) = true := by simp [hz]
    have HR := hid (show rmenuL L rs cs m f k d = (0, checkC L rs cs [(m, f, k)]) by rw [rmenuL, if_pos hz])
    clear hz
    go_enter Try.func32, Try.ntmps32
    go_wp2_with fail
    refine (both_any _ _ _ _ _ _ _ _ _ _ _ hA).mono ?_
    rintro e w1 ⟨hb, rfl⟩
    have p1 := hB.trans (hb.mono (by simp; omega))
    go_wp2
    go_ret2
    exact ⟨p1, ret_ints (by rw [HR.out]) (by rw [HR.out])⟩

end Go.Proofs.Ytejbokelbapfmaa
