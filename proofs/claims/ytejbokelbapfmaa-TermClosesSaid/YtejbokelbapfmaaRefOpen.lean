/- The document's own answers about school days: IsOpen, school, Nth, Next. -/
import Derived.Test.YtejbokelbapfmaaRefMenu
import Derived.Test.YtejbokelbapfmaaOpens
import Derived.Test.YtejbokelbapfmaaRefOpenM
set_option linter.unusedVariables false
namespace Go.Proofs.Ytejbokelbapfmaa
open Go.RowKit

set_option maxRecDepth 100000 in
set_option maxHeartbeats 2000000 in
theorem risOpen_any (L : Int) (ra : Option Addr) (rs : List Int) (rc : Nat) (ca : Option Addr) (cs : List Int) (cc : Nat) (d : Int) (w : World) (h : TermAt w L ra rs ca cs) :
  Calls Try.prog 19 #[.agg #[.int .i64 L, .slice ra rs.length rc, .slice ca cs.length cc], .int .i64 d] w (BIR w (ropenL L rs cs d)) := by
  have hB := (Below.refl w.heap.size w).alloc (Nat.le_refl _) (.cells #[.int .i64 L, .slice ra rs.length rc, .slice ca cs.length cc] 24)
  have hA := h.below hB
  by_cases hz : validT L rs cs = 0
  · have hL1 := (validT_ok hz).1
    have hL2 := (validT_ok hz).2.1
    have HC := hid (show checkD L rs cs d = if d < 0 ∨ L ≤ d then 1 else 0 by rw [checkD, if_neg (by simp [hz])])
    have HZ := hid hz
    clear hz
    cases hd : inB d 0 (L - 1) with
    | false =>
      have hh : d < 0 ∨ L ≤ d := by simp [inB] at hd; omega
      have HM := hid (show ropenL L rs cs d = (false, 1) by simp only [ropenL, HC.out, hh, if_true]; rfl)
      clear hh
      go_enter Try.func19, Try.ntmps19
      go_wp2_with fail
      refine (rvalidate_any _ _ _ _ _ _ _ _ hA).mono ?_
      rintro e w1 ⟨hb, rfl⟩
      have p1 := hB.trans (hb.mono (by simp))
      obtain ⟨d1, d2⟩ := bcell hb
      simp only [World.size_alloc] at d1 d2
      rw [HZ.out]
      go_wp2_with fail
      refine (within_any _ _ _ _).mono ?_
      rintro e w' ⟨rfl, rfl⟩
      rw [hd]
      go_wp2
      go_ret2
      exact ⟨p1, (by rw [HM.out]; rfl)⟩
    | true =>
      have hd' : 0 ≤ d ∧ d < L := by simp [inB] at hd; omega
      have HM := hid (show ropenL L rs cs d = (openB rs cs d, 0) by simp only [ropenL, HC.out, if_neg (show ¬ (d < 0 ∨ L ≤ d) by omega)]; rfl)
      go_enter Try.func19, Try.ntmps19
      go_wp2_with fail
      refine (rvalidate_any _ _ _ _ _ _ _ _ hA).mono ?_
      rintro e w1 ⟨hb, rfl⟩
      have p1 := hB.trans (hb.mono (by simp))
      obtain ⟨d1, d2⟩ := bcell hb
      simp only [World.size_alloc] at d1 d2
      rw [HZ.out]
      go_wp2_with fail
      refine (within_any _ _ _ _).mono ?_
      rintro e w' ⟨rfl, rfl⟩
      rw [hd]
      go_wp2_with fail
      refine (ropen_any _ _ _ _ _ _ _ _ _ (h.below p1) hd'.1).mono ?_
      rintro e w2 ⟨hb2, rfl⟩
      go_wp2
      go_ret2
      exact ⟨p1.trans (hb2.mono p1.size), (by rw [HM.out]; rfl)⟩
  · have hz' : (validT L rs cs != 0) = true := by simp [hz]
    have HM := hid (show ropenL L rs cs d = (false, validT L rs cs) by rw [ropenL, checkD, if_pos hz, if_pos hz])
    clear hz
    go_enter Try.func19, Try.ntmps19
    go_wp2_with fail
    refine (rvalidate_any _ _ _ _ _ _ _ _ hA).mono ?_
    rintro e w1 ⟨hb, rfl⟩
    have p1 := hB.trans (hb.mono (by simp))
    go_wp2
    go_ret2
    exact ⟨p1, (by rw [HM.out]; rfl)⟩

set_option maxRecDepth 100000 in
set_option maxHeartbeats 4000000 in
theorem rschool_any (n : Nat) (ra : Option Addr) (rs : List Int) (rc : Nat) (ca : Option Addr) (cs : List Int) (cc : Nat) (w : World) (h : TermAt w (n : Int) ra rs ca cs) (hn : n ≤ 1000) :
  Calls Try.prog 58 #[.agg #[.int .i64 n, .slice ra rs.length rc, .slice ca cs.length cc]] w (OwnR w (w.heap.size + 1) (sdl (wd rs cs n))) := by
  have HL := hid (fun j => sd_length rs cs j)
  obtain ⟨i0, hi, hz0, hz1, hz2⟩ := info_parts int_info
  have hB0 := (Below.refl w.heap.size w).alloc (Nat.le_refl _) (.cells #[.int .i64 (n : Int), .slice ra rs.length rc, .slice ca cs.length cc] 24)
  go_enter Try.func58, Try.ntmps58
  go_wp2
  go_loopw [3, 4] (fun o i wr => ∃ (j : Nat), j ≤ n ∧ i = .int .i64 j ∧ wr.ownsRow (w.heap.size + 1) 3 1 o (sdl (wd rs cs j)).length ((sdl (wd rs cs j)).map (Value.int .i64)) ∧ Below w.heap.size w wr ∧ w.heap.size + 1 ≤ wr.heap.size ∧
    wr.cell? ⟨w.heap.size, 0, none⟩ = some (.int .i64 n) ∧ wr.cell? ⟨w.heap.size, 1, none⟩ = some (.slice ra rs.length rc) ∧ wr.cell? ⟨w.heap.size, 2, none⟩ = some (.slice ca cs.length cc)) (fun _ i _ => n - (intOf i).toNat)
  case atStart => exact ⟨0, Nat.zero_le _, rfl, ⟨rfl, .inl ⟨rfl, rfl⟩⟩, hB0, by simp, by go_simp, by go_simp, by go_simp⟩
  case round =>
    obtain ⟨j, hj, rfl, hown, hB, hsz, a0, a1, a2⟩ := hrel
    by_cases hlt : j < n
    · have HS := hid (sd_succ rs cs j)
      have hLj := HL.out j
      generalize sdl (wd rs cs j) = s at *
      have hT := h.below hB
      cases ho : openB rs cs (j : Int) with
      | false =>
        go_wp2_with fail
        refine (ropen_any _ _ _ _ _ _ _ _ _ hT (by omega)).mono ?_
        rintro e w1 ⟨q1, rfl⟩
        have p1 := hB.trans (q1.mono hB.size)
        have hs1 := q1.size
        rw [← q1.cell (by simp; omega)] at a0 a1 a2
        have hown1 := own_below hown q1
        rw [ho]
        go_wp2
        go_roundw
        case rel => exact ⟨j + 1, by omega, by go_num, by rw [HS.out, ho]; simpa using hown1, p1, by omega, a0, a1, a2⟩
        case measure => simp [intOf]; omega
      | true =>
        go_wp2_with fail
        refine (ropen_any _ _ _ _ _ _ _ _ _ hT (by omega)).mono ?_
        rintro e w1 ⟨q1, rfl⟩
        have p1 := hB.trans (q1.mono hB.size)
        have hs1 := q1.size
        rw [← q1.cell (by simp; omega)] at a0 a1 a2
        have hown1 := own_below hown q1
        rw [ho]
        go_wp2_with (at_builtin; refine wpList_append_own _ rfl _ _ 22 rfl (w.heap.size + 1) 3 i0 (.int .i64 0) 1 8 Try.underlying22 hi hz0 hz1 hz2 rfl (by decide) _ _ _ rfl (hown1.alloc _) ⟨w1.heap.size, 0, none⟩ 1 1 [.int .i64 (j : Int)] rfl rfl ?c1 ?c2 ?c3 ?c4 ?c5 ?_)
        case c1 => exact cell_one_new _ _ _
        case c2 => simp [Value.oneCell']
        case c3 => unfold maxLen; omega
        case c4 => omega
        case c5 => simp; omega
        intro v' w2 hown2 hgrow _
        have hown3 : w2.ownsRow (w.heap.size + 1) 3 1 v' (sdl (wd rs cs (j + 1))).length ((sdl (wd rs cs (j + 1))).map (Value.int .i64)) := by
          rw [HS.out, ho]
          simpa using hown2
        have hne : ∀ q, q < w.heap.size + 1 → some q ≠ u3.ownBlock := fun q hq e => by have := (hown1.lt q e.symm).1; omega
        have p2 := (p1.alloc p1.size _).grown hgrow (by simp; omega) (fun q hq => by have := (hown1.lt q hq).1; omega)
        have hs2 : w1.heap.size + 1 ≤ w2.heap.size := by have := hgrow.size; simpa using this
        replace a0 := hgrow.cell ((World.cell?_alloc_past _ _ _ (by omega)).trans a0) (hne _ (by simp))
        replace a1 := hgrow.cell ((World.cell?_alloc_past _ _ _ (by omega)).trans a1) (hne _ (by simp))
        replace a2 := hgrow.cell ((World.cell?_alloc_past _ _ _ (by omega)).trans a2) (hne _ (by simp))
        clear hgrow hown2 hown1 hown q1 hB hT hne
        go_wp2
        go_roundw
        case rel => exact ⟨j + 1, by omega, by go_num, hown3, p2, by omega, a0, a1, a2⟩
        case measure => simp [intOf]; omega
    · obtain rfl : j = n := by omega
      go_wp2
      go_ret
      exact ⟨hB, _, rfl, hown⟩

end Go.Proofs.Ytejbokelbapfmaa
