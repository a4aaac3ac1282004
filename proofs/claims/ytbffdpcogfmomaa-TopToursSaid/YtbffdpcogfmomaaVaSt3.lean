/- The document's test of stops; both tests of a drive: chapter 8. -/
import Derived.Test.YtbffdpcogfmomaaVaRL
/- Stops in memory; their tests: chapter 8. -/
set_option linter.unusedVariables false
namespace Go.Proofs.Ytbffdpcogfmomaa
open Go.RowKit

/-- A stop: Open, Close, Stay, Boxes. -/
structure St where
  op : Int
  cl : Int
  sy : Int
  bx : Int
def stAt (l : List St) (i : Nat) : St := l[i]?.getD ⟨0, 0, 0, 0⟩
theorem stAt_mem {l : List St} {i : Nat} (h : i < l.length) : stAt l i ∈ l := by simp [stAt, h]
theorem mem_stAt {l : List St} {s : St} (h : s ∈ l) : ∃ i, i < l.length ∧ stAt l i = s := by
  obtain ⟨k, hk, he⟩ := List.getElem_of_mem h
  exact ⟨k, hk, by simp [stAt, hk, he]⟩
def i64B (x : Int) : Prop := -9223372036854775808 ≤ x ∧ x ≤ 9223372036854775807
/-- A slice that reads as stops. -/
structure StsAt (w : World) (a : Option Addr) (l : List St) : Prop where
  len : l.length ≤ 140737488355328
  at_ : l = [] ∨ ∃ b off, a = some ⟨b, off, none⟩ ∧ ∀ i, i < l.length → w.cell? ⟨b, off + i * 4, none⟩ = some (.int .i64 (stAt l i).op) ∧ w.cell? ⟨b, off + i * 4 + 1, none⟩ = some (.int .i64 (stAt l i).cl) ∧ w.cell? ⟨b, off + i * 4 + 2, none⟩ = some (.int .i64 (stAt l i).sy) ∧ w.cell? ⟨b, off + i * 4 + 3, none⟩ = some (.int .i64 (stAt l i).bx)
  bd : ∀ s ∈ l, i64B s.op ∧ i64B s.cl ∧ i64B s.sy ∧ i64B s.bx
theorem StsAt.below {w w' : World} {a : Option Addr} {l : List St} (h : StsAt w a l) (hb : Below w.heap.size w w') : StsAt w' a l := by
  refine ⟨h.len, ?_, h.bd⟩
  rcases h.at_ with e | ⟨b, off, ha, hc⟩
  · exact .inl e
  · refine .inr ⟨b, off, ha, fun i hi => ?_⟩
    obtain ⟨h0, h1, h2, h3⟩ := hc i hi
    exact ⟨by rw [hb.cell (cell_lt h0)]; exact h0, by rw [hb.cell (cell_lt h1)]; exact h1, by rw [hb.cell (cell_lt h2)]; exact h2, by rw [hb.cell (cell_lt h3)]; exact h3⟩
theorem StsAt.open_ {w : World} {a : Option Addr} {l : List St} (h : StsAt w a l) (h0 : 0 < l.length) : ∃ b off, a = some ⟨b, off, none⟩ ∧ ∀ i, i < l.length → w.cell? ⟨b, off + i * 4, none⟩ = some (.int .i64 (stAt l i).op) ∧ w.cell? ⟨b, off + i * 4 + 1, none⟩ = some (.int .i64 (stAt l i).cl) ∧ w.cell? ⟨b, off + i * 4 + 2, none⟩ = some (.int .i64 (stAt l i).sy) ∧ w.cell? ⟨b, off + i * 4 + 3, none⟩ = some (.int .i64 (stAt l i).bx) := by
  rcases h.at_ with e | h
  · rw [e] at h0; simp at h0
  · exact h
def okSt (s : St) : Bool := ((zin s.op 0 10000 && zin s.cl 0 10000) && zin s.sy 0 10000) && zin s.bx 0 100
/-- The error of ways and stops. -/
def stsE (t : Tbl) (l : List St) : Int := if vaV t = 0 then (if l.length = t.length ∧ l.all okSt = true then 0 else 1) else vaV t
structure StsOk (l : List St) (n : Nat) : Prop where
  len : l.length = n
  all : ∀ s ∈ l, (0 ≤ s.op ∧ s.op ≤ 10000) ∧ (0 ≤ s.cl ∧ s.cl ≤ 10000) ∧ (0 ≤ s.sy ∧ s.sy ≤ 10000) ∧ 0 ≤ s.bx ∧ s.bx ≤ 100
theorem stsE_ok {t : Tbl} {l : List St} (h : stsE t l = 0) : Ways t ∧ StsOk l t.length := by
  unfold stsE at h
  split at h
  · rename_i h1
    split at h
    · rename_i h2
      refine ⟨(ways_iff t).1 h1, h2.1, fun s hs => ?_⟩
      have := List.all_eq_true.1 h2.2 s hs
      simp [okSt, zin] at this
      exact ⟨this.1.1.1, this.1.1.2, this.1.2, this.2⟩
    · cases h
  · rename_i h1; exact absurd h h1
theorem stsE_bad {t : Tbl} {l : List St} {k : Nat} (hv : vaV t = 0) (hk : k < l.length) (h : okSt (stAt l k) = false) : stsE t l = 1 := by
  unfold stsE
  rw [if_pos hv, if_neg]
  rintro ⟨_, e⟩
  have := List.all_eq_true.1 e _ (stAt_mem hk)
  rw [h] at this; cases this
set_option maxRecDepth 100000 in
set_option maxHeartbeats 2000000 in
theorem vPossible_any (s : St) (w : World) : Calls Try.prog 80 #[.agg #[.int .i64 s.op, .int .i64 s.cl, .int .i64 s.sy, .int .i64 s.bx]] w (BoolR w (okSt s)) := by
  obtain ⟨x, y, z, u⟩ := s
  have HB := hid ((Below.refl w.heap.size w).alloc (Nat.le_refl _) (.cells #[.int .i64 x, .int .i64 y, .int .i64 z, .int .i64 u] 105))
  have HE := hid (show okSt ⟨x, y, z, u⟩ = (((zin x 0 10000 && zin y 0 10000) && zin z 0 10000) && zin u 0 100) from rfl)
  have H1 := hid (fun w => vWithin_any x 0 10000 w)
  have H2 := hid (fun w => vWithin_any y 0 10000 w)
  have H3 := hid (fun w => vWithin_any z 0 10000 w)
  have H4 := hid (fun w => vWithin_any u 0 100 w)
  show Calls Try.prog 80 #[.agg #[.int .i64 x, .int .i64 y, .int .i64 z, .int .i64 u]] w _
  cases h1 : zin x 0 10000 with
  | false =>
    rw [h1] at HE H1
    go_enter Try.func80, Try.ntmps80
    go_wp2_with fail
    refine (H1.out _).mono ?_
    rintro e w1 ⟨rfl, rfl⟩
    go_wp2
    go_ret
    exact ⟨HB.out, ret_bool (by rw [HE.out]; simp)⟩
  | true =>
    cases h2 : zin y 0 10000 with
    | false =>
      rw [h1] at HE H1
      rw [h2] at HE H2
      go_enter Try.func80, Try.ntmps80
      go_wp2_with fail
      refine (H1.out _).mono ?_
      rintro e w1 ⟨rfl, rfl⟩
      go_wp2_with fail
      refine (H2.out _).mono ?_
      rintro e w1 ⟨rfl, rfl⟩
      go_wp2
      go_ret
      exact ⟨HB.out, ret_bool (by rw [HE.out]; simp)⟩
    | true =>
      cases h3 : zin z 0 10000 with
      | false =>
        rw [h1] at HE H1
        rw [h2] at HE H2
        rw [h3] at HE H3
        go_enter Try.func80, Try.ntmps80
        go_wp2_with fail
        refine (H1.out _).mono ?_
        rintro e w1 ⟨rfl, rfl⟩
        go_wp2_with fail
        refine (H2.out _).mono ?_
        rintro e w1 ⟨rfl, rfl⟩
        go_wp2_with fail
        refine (H3.out _).mono ?_
        rintro e w1 ⟨rfl, rfl⟩
        go_wp2
        go_ret
        exact ⟨HB.out, ret_bool (by rw [HE.out]; simp)⟩
      | true =>
        rw [h1] at HE H1
        rw [h2] at HE H2
        rw [h3] at HE H3
        generalize hb4 : zin u 0 100 = b4 at *
        go_enter Try.func80, Try.ntmps80
        go_wp2_with fail
        refine (H1.out _).mono ?_
        rintro e w1 ⟨rfl, rfl⟩
        go_wp2_with fail
        refine (H2.out _).mono ?_
        rintro e w1 ⟨rfl, rfl⟩
        go_wp2_with fail
        refine (H3.out _).mono ?_
        rintro e w1 ⟨rfl, rfl⟩
        go_wp2_with fail
        refine (H4.out _).mono ?_
        rintro e w1 ⟨rfl, rfl⟩
        go_wp2
        go_ret
        exact ⟨HB.out, ret_bool (by rw [HE.out]; simp)⟩
end Go.Proofs.Ytbffdpcogfmomaa
/- The tests of stops: chapter 8. -/
set_option linter.unusedVariables false
namespace Go.Proofs.Ytbffdpcogfmomaa
open Go.RowKit

theorem stsE_val {t : Tbl} {l : List St} (h : vaV t ≠ 0) : stsE t l = vaV t := if_neg h
theorem stsE_len {t : Tbl} {l : List St} (h : vaV t = 0) (h2 : l.length ≠ t.length) : stsE t l = 1 := by unfold stsE; rw [if_pos h, if_neg (fun e => h2 e.1)]
theorem stsE_all {t : Tbl} {l : List St} (h : vaV t = 0) (h2 : l.length = t.length) (h3 : ∀ k, k < l.length → okSt (stAt l k) = true) : stsE t l = 0 := by
  unfold stsE
  rw [if_pos h, if_pos ⟨h2, List.all_eq_true.2 fun s hs => by obtain ⟨i, hi, rfl⟩ := mem_stAt hs; exact h3 i hi⟩]
set_option maxRecDepth 100000 in
set_option maxHeartbeats 4000000 in
theorem vStops_any (a A : Option Addr) (t : Tbl) (l : List St) (cap c : Nat) (w : World) (h : TabAt w a t) (hs : StsAt w A l) : Calls Try.prog 44 #[.slice a t.length cap, .slice A l.length c] w (IntR w (stsE t l)) := by
  have HV := hid (vValidate_any a t cap w h)
  have htl := h.len
  have hsl := hs.len
  by_cases hv : vaV t = 0
  · rw [hv] at HV
    by_cases hlt : l.length = t.length
    · have HBad := hid (fun k hk e => stsE_bad (t := t) (l := l) (k := k) hv hk e)
      have HAll := hid (fun e => stsE_all (t := t) (l := l) hv hlt e)
      have hne : ((l.length : Int) == (t.length : Int)) = true := by simp; omega
      have hne2 : ((l.length : Int) != (t.length : Int)) = false := by simp; omega
      have HS := hid hs
      clear h hs hv hlt
      go_enter Try.func44, Try.ntmps44
      go_wp2_with fail
      refine HV.out.mono ?_
      rintro e w1 ⟨hb1, rfl⟩
      have HB1 := hid hb1
      clear hb1 HV
      go_wp2_with fail
      go_loopw [20] (fun i wr => ∃ (k : Nat), k ≤ l.length ∧ i = .int .i64 k ∧ Hid (∀ j, j < k → okSt (stAt l j) = true) ∧ Hid (Below w.heap.size w wr)) (fun i _ => l.length - (intOf i).toNat)
      case atStart => exact ⟨0, Nat.zero_le _, rfl, fun j hj => by omega, HB1⟩
      case round =>
        obtain ⟨k, hk, rfl, HG, HB⟩ := hrel
        clear HB1
        by_cases hltk : k < l.length
        · obtain ⟨b, off, rfl, hc⟩ := (HS.out.below HB.out).open_ (by omega)
          obtain ⟨c0, c1, c2, c3⟩ := hc k hltk
          have HX := hid (fun e => HBad.out k hltk e)
          have HY := hid (fun (e : okSt (stAt l k) = true) => show ∀ j, j < k + 1 → okSt (stAt l j) = true from fun j hj => by
            rcases Nat.lt_or_ge j k with h | h
            · exact HG.out j h
            · rw [show j = k by omega]; exact e)
          have HP := hid (fun (W : World) => vPossible_any (stAt l k) W)
          have hsz := HB.out.size
          have HB2 := hid (HB.out.alloc hsz (.cells #[.int .i64 (stAt l k).op, .int .i64 (stAt l k).cl, .int .i64 (stAt l k).sy, .int .i64 (stAt l k).bx] 105))
          clear hc
          generalize stAt l k = s at *
          obtain ⟨x, y, z, u⟩ := s
          simp only at c0 c1 c2 c3
          cases ho : okSt ⟨x, y, z, u⟩ with
          | false =>
            rw [ho] at HP
            have HZ := hid (HX.out ho)
            clear HX HY ho
            go_wp2_with fail
            refine (HP.out _).mono ?_
            rintro e w2 ⟨hb2, rfl⟩
            have HB3 := hid (HB2.out.trans (hb2.mono HB2.out.size))
            clear hb2
            go_wp2
            go_ret
            exact ⟨HB3.out, ret_int (by rw [HZ.out])⟩
          | true =>
            rw [ho] at HP
            have HZ := hid (HY.out ho)
            clear HX HY ho
            go_wp2_with fail
            refine (HP.out _).mono ?_
            rintro e w2 ⟨hb2, rfl⟩
            have HB3 := hid (HB2.out.trans (hb2.mono HB2.out.size))
            clear hb2
            go_wp2
            go_roundw
            case rel => exact ⟨k + 1, by omega, by go_num, HZ, HB3⟩
            case measure => simp [intOf]; omega
        · have HZ := hid (HAll.out (fun j hj => HG.out j (by omega)))
          go_wp2
          go_ret
          exact ⟨HB.out, ret_int (by rw [HZ.out])⟩
    · have HN := hid (stsE_len (l := l) hv hlt)
      have hne : ((l.length : Int) == (t.length : Int)) = false := by simp; omega
      have hne2 : ((l.length : Int) != (t.length : Int)) = true := by simp; omega
      clear h hs hv hlt
      go_enter Try.func44, Try.ntmps44
      go_wp2_with fail
      refine HV.out.mono ?_
      rintro e w1 ⟨hb1, rfl⟩
      have HB1 := hid hb1
      clear hb1
      go_wp2
      go_ret
      exact ⟨HB1.out, ret_int (by rw [HN.out])⟩
  · have HN := hid (stsE_val (l := l) hv)
    have hne : (vaV t == 0) = false := by simp; exact hv
    clear h hs
    generalize vaV t = e0 at *
    go_enter Try.func44, Try.ntmps44
    go_wp2_with fail
    refine HV.out.mono ?_
    rintro e w1 ⟨hb1, rfl⟩
    have HB1 := hid hb1
    clear hb1
    go_wp2
    go_ret
    exact ⟨HB1.out, ret_int (by rw [HN.out])⟩
/-- The errors of ways, stops and a tour. -/
def touE (t : Tbl) (l : List St) (o : List Int) : Int := if stsE t l = 0 then tourE o t.length else stsE t l
def drvE (t : Tbl) (l : List St) (o : List Int) (b : Int) : Int := if touE t l o = 0 then (if zin b 0 10000 = true then 0 else 1) else touE t l o
theorem drvE_ok {t : Tbl} {l : List St} {o : List Int} {b : Int} (h : drvE t l o b = 0) : Ways t ∧ StsOk l t.length ∧ StopsOk o t.length ∧ o.Nodup ∧ 0 ≤ b ∧ b ≤ 10000 := by
  unfold drvE at h
  split at h
  · rename_i h1
    split at h
    · rename_i h2
      unfold touE at h1
      split at h1
      · rename_i h3
        obtain ⟨h4, h5⟩ := stsE_ok h3
        obtain ⟨h6, h7⟩ := (tourE_iff o t.length).1 h1
        exact ⟨h4, h5, h6, h7, of_decide_eq_true h2⟩
      · rename_i h3; exact absurd h1 h3
    · cases h
  · rename_i h1; exact absurd h h1
end Go.Proofs.Ytbffdpcogfmomaa
set_option linter.unusedVariables false
namespace Go.Proofs.Ytbffdpcogfmomaa
open Go.RowKit

set_option maxRecDepth 100000 in
set_option maxHeartbeats 4000000 in
theorem rStops_any (a A : Option Addr) (t : Tbl) (l : List St) (cap c : Nat) (w : World) (h : TabAt w a t) (hs : StsAt w A l) : Calls Try.prog 45 #[.slice a t.length cap, .slice A l.length c] w (IntR w (stsE t l)) := by
  have HV := hid (rValidate_any a t cap w h)
  have htl := h.len
  have hsl := hs.len
  by_cases hv : vaV t = 0
  · rw [hv] at HV
    by_cases hlt : l.length = t.length
    · have HBad := hid (fun k hk e => stsE_bad (t := t) (l := l) (k := k) hv hk e)
      have HAll := hid (fun e => stsE_all (t := t) (l := l) hv hlt e)
      have hne : ((l.length : Int) == (t.length : Int)) = true := by simp; omega
      have hne2 : ((l.length : Int) != (t.length : Int)) = false := by simp; omega
      have HS := hid hs
      clear h hs hv hlt
      go_enter Try.func45, Try.ntmps45
      go_wp2_with fail
      refine HV.out.mono ?_
      rintro e w1 ⟨hb1, rfl⟩
      have HB1 := hid hb1
      clear hb1 HV
      go_wp2_with fail
      go_loopw [6] (fun i wr => ∃ (k : Nat), k ≤ l.length ∧ i = .int .i64 k ∧ Hid (∀ j, j < k → okSt (stAt l j) = true) ∧ Hid (Below w.heap.size w wr)) (fun i _ => l.length - (intOf i).toNat)
      case atStart => exact ⟨0, Nat.zero_le _, rfl, fun j hj => by omega, HB1⟩
      case round =>
        obtain ⟨k, hk, rfl, HG, HB⟩ := hrel
        clear HB1
        by_cases hltk : k < l.length
        · obtain ⟨b, off, rfl, hc⟩ := (HS.out.below HB.out).open_ (by omega)
          obtain ⟨c0, c1, c2, c3⟩ := hc k hltk
          have HX := hid (fun e => HBad.out k hltk e)
          have HY := hid (fun (e : okSt (stAt l k) = true) => show ∀ j, j < k + 1 → okSt (stAt l j) = true from fun j hj => by
            rcases Nat.lt_or_ge j k with h | h
            · exact HG.out j h
            · rw [show j = k by omega]; exact e)
          have HP := hid (fun (W : World) => vPossible_any (stAt l k) W)
          have hsz := HB.out.size
          have HB2 := hid (HB.out.alloc hsz (.cells #[.int .i64 (stAt l k).op, .int .i64 (stAt l k).cl, .int .i64 (stAt l k).sy, .int .i64 (stAt l k).bx] 105))
          clear hc
          generalize stAt l k = s at *
          obtain ⟨x, y, z, u⟩ := s
          simp only at c0 c1 c2 c3
          have HE := hid (show okSt ⟨x, y, z, u⟩ = (((zin x 0 10000 && zin y 0 10000) && zin z 0 10000) && zin u 0 100) from rfl)
          have H1 := hid (fun w => rWithin8_any x 0 10000 w)
          have H2 := hid (fun w => rWithin8_any y 0 10000 w)
          have H3 := hid (fun w => rWithin8_any z 0 10000 w)
          have H4 := hid (fun w => rWithin8_any u 0 100 w)
          clear HP
          cases h1 : zin x 0 10000 with
          | false =>
            have HZ := hid (HX.out (by rw [HE.out, h1]; simp))
            rw [h1] at H1
            clear HX HY HE
            go_wp2_with fail
            refine (H1.out _).mono ?_
            rintro e w2 ⟨rfl, rfl⟩
            go_wp2
            go_ret
            exact ⟨HB2.out, ret_int (by rw [HZ.out])⟩
          | true =>
            cases h2 : zin y 0 10000 with
            | false =>
              have HZ := hid (HX.out (by rw [HE.out, h1, h2]; simp))
              rw [h1] at H1
              rw [h2] at H2
              clear HX HY HE
              go_wp2_with fail
              refine (H1.out _).mono ?_
              rintro e w2 ⟨rfl, rfl⟩
              go_wp2_with fail
              refine (H2.out _).mono ?_
              rintro e w3 ⟨rfl, rfl⟩
              go_wp2
              go_ret
              exact ⟨HB2.out, ret_int (by rw [HZ.out])⟩
            | true =>
              cases h3 : zin z 0 10000 with
              | false =>
                have HZ := hid (HX.out (by rw [HE.out, h1, h2, h3]; simp))
                rw [h1] at H1
                rw [h2] at H2
                rw [h3] at H3
                clear HX HY HE
                go_wp2_with fail
                refine (H1.out _).mono ?_
                rintro e w2 ⟨rfl, rfl⟩
                go_wp2_with fail
                refine (H2.out _).mono ?_
                rintro e w3 ⟨rfl, rfl⟩
                go_wp2_with fail
                refine (H3.out _).mono ?_
                rintro e w4 ⟨rfl, rfl⟩
                go_wp2
                go_ret
                exact ⟨HB2.out, ret_int (by rw [HZ.out])⟩
              | true =>
                cases h4 : zin u 0 100 with
                | false =>
                  have HZ := hid (HX.out (by rw [HE.out, h1, h2, h3, h4]; simp))
                  rw [h1] at H1
                  rw [h2] at H2
                  rw [h3] at H3
                  rw [h4] at H4
                  clear HX HY HE
                  go_wp2_with fail
                  refine (H1.out _).mono ?_
                  rintro e w2 ⟨rfl, rfl⟩
                  go_wp2_with fail
                  refine (H2.out _).mono ?_
                  rintro e w3 ⟨rfl, rfl⟩
                  go_wp2_with fail
                  refine (H3.out _).mono ?_
                  rintro e w4 ⟨rfl, rfl⟩
                  go_wp2_with fail
                  refine (H4.out _).mono ?_
                  rintro e w5 ⟨rfl, rfl⟩
                  go_wp2
                  go_ret
                  exact ⟨HB2.out, ret_int (by rw [HZ.out])⟩
                | true =>
                  have HZ := hid (HY.out (by rw [HE.out, h1, h2, h3, h4]; rfl))
                  rw [h1] at H1
                  rw [h2] at H2
                  rw [h3] at H3
                  rw [h4] at H4
                  clear HX HY HE
                  go_wp2_with fail
                  refine (H1.out _).mono ?_
                  rintro e w2 ⟨rfl, rfl⟩
                  go_wp2_with fail
                  refine (H2.out _).mono ?_
                  rintro e w3 ⟨rfl, rfl⟩
                  go_wp2_with fail
                  refine (H3.out _).mono ?_
                  rintro e w4 ⟨rfl, rfl⟩
                  go_wp2_with fail
                  refine (H4.out _).mono ?_
                  rintro e w5 ⟨rfl, rfl⟩
                  go_wp2
                  go_roundw
                  case rel => exact ⟨k + 1, by omega, by go_num, HZ, HB2⟩
                  case measure => simp [intOf]; omega
        · have HZ := hid (HAll.out (fun j hj => HG.out j (by omega)))
          go_wp2
          go_ret
          exact ⟨HB.out, ret_int (by rw [HZ.out])⟩
    · have HN := hid (stsE_len (l := l) hv hlt)
      have hne : ((l.length : Int) == (t.length : Int)) = false := by simp; omega
      have hne2 : ((l.length : Int) != (t.length : Int)) = true := by simp; omega
      clear h hs hv hlt
      go_enter Try.func45, Try.ntmps45
      go_wp2_with fail
      refine HV.out.mono ?_
      rintro e w1 ⟨hb1, rfl⟩
      have HB1 := hid hb1
      clear hb1
      go_wp2
      go_ret
      exact ⟨HB1.out, ret_int (by rw [HN.out])⟩
  · have HN := hid (stsE_val (l := l) hv)
    have hne : (vaV t == 0) = false := by simp; exact hv
    clear h hs
    generalize vaV t = e0 at *
    go_enter Try.func45, Try.ntmps45
    go_wp2_with fail
    refine HV.out.mono ?_
    rintro e w1 ⟨hb1, rfl⟩
    have HB1 := hid hb1
    clear hb1
    go_wp2
    go_ret
    exact ⟨HB1.out, ret_int (by rw [HN.out])⟩
set_option maxRecDepth 100000 in
set_option maxHeartbeats 2000000 in
theorem vCheckStops_any (a A B : Option Addr) (t : Tbl) (l : List St) (o : List Int) (cap c d : Nat) (w : World) (h : TabAt w a t) (hs : StsAt w A l) (hi : Ints w B o) : Calls Try.prog 85 #[.slice a t.length cap, .slice A l.length c, .slice B o.length d] w (IntR w (touE t l o)) := by
  have HV := hid (vStops_any a A t l cap c w h hs)
  have htl := h.len
  by_cases hv : stsE t l = 0
  · have hl7 := (stsE_ok hv).1.len
    rw [hv] at HV
    have HE := hid (show touE t l o = tourE o t.length from if_pos hv)
    have HT := hid (fun (W : World) (hb : Below w.heap.size w W) => vCheckTour_any B o d t.length W (hi.below hb) hl7)
    clear h hs hi hv
    generalize tourE o t.length = e1 at *
    go_enter Try.func85, Try.ntmps85
    go_wp2_with fail
    refine HV.out.mono ?_
    rintro e w1 ⟨hb1, rfl⟩
    have HB1 := hid hb1
    have HC := hid (HT.out w1 hb1)
    clear hb1
    go_wp2_with fail
    refine HC.out.mono ?_
    rintro e w2 ⟨hb2, rfl⟩
    have HB2 := hid (HB1.out.trans (hb2.mono HB1.out.size))
    clear hb2 HC
    go_wp2
    go_ret
    exact ⟨HB2.out, ret_int (by rw [HE.out])⟩
  · have HN := hid (show touE t l o = stsE t l from if_neg hv)
    have hne : (stsE t l == 0) = false := by simp; exact hv
    clear h hs hi
    generalize stsE t l = e0 at *
    go_enter Try.func85, Try.ntmps85
    go_wp2_with fail
    refine HV.out.mono ?_
    rintro e w1 ⟨hb1, rfl⟩
    have HB1 := hid hb1
    clear hb1
    go_wp2
    go_ret
    exact ⟨HB1.out, ret_int (by rw [HN.out])⟩
set_option maxRecDepth 100000 in
set_option maxHeartbeats 2000000 in
theorem rToured_any (a A B : Option Addr) (t : Tbl) (l : List St) (o : List Int) (cap c d : Nat) (w : World) (h : TabAt w a t) (hs : StsAt w A l) (hi : Ints w B o) : Calls Try.prog 78 #[.slice a t.length cap, .slice A l.length c, .slice B o.length d] w (IntR w (touE t l o)) := by
  have HV := hid (rStops_any a A t l cap c w h hs)
  have htl := h.len
  by_cases hv : stsE t l = 0
  · have hl7 := (stsE_ok hv).1.len
    rw [hv] at HV
    have HE := hid (show touE t l o = tourE o t.length from if_pos hv)
    have HT := hid (fun (W : World) (hb : Below w.heap.size w W) => rIsTour_any a B t o cap d W (hi.below hb) hl7)
    clear h hs hi hv
    generalize tourE o t.length = e1 at *
    go_enter Try.func78, Try.ntmps78
    go_wp2_with fail
    refine HV.out.mono ?_
    rintro e w1 ⟨hb1, rfl⟩
    have HB1 := hid hb1
    have HC := hid (HT.out w1 hb1)
    clear hb1
    go_wp2_with fail
    refine HC.out.mono ?_
    rintro e w2 ⟨hb2, rfl⟩
    have HB2 := hid (HB1.out.trans (hb2.mono HB1.out.size))
    clear hb2 HC
    go_wp2
    go_ret
    exact ⟨HB2.out, ret_int (by rw [HE.out])⟩
  · have HN := hid (show touE t l o = stsE t l from if_neg hv)
    have hne : (stsE t l == 0) = false := by simp; exact hv
    clear h hs hi
    generalize stsE t l = e0 at *
    go_enter Try.func78, Try.ntmps78
    go_wp2_with fail
    refine HV.out.mono ?_
    rintro e w1 ⟨hb1, rfl⟩
    have HB1 := hid hb1
    clear hb1
    go_wp2
    go_ret
    exact ⟨HB1.out, ret_int (by rw [HN.out])⟩
set_option maxRecDepth 100000 in
set_option maxHeartbeats 2000000 in
theorem vCheckDrive_any (a A B : Option Addr) (t : Tbl) (l : List St) (o : List Int) (b : Int) (cap c d : Nat) (w : World) (h : TabAt w a t) (hs : StsAt w A l) (hi : Ints w B o) : Calls Try.prog 76 #[.slice a t.length cap, .slice A l.length c, .slice B o.length d, .int .i64 b] w (IntR w (drvE t l o b)) := by
  have HV := hid (vCheckStops_any a A B t l o cap c d w h hs hi)
  by_cases hv : touE t l o = 0
  · rw [hv] at HV
    have HE := hid (show drvE t l o b = if zin b 0 10000 = true then 0 else 1 from if_pos hv)
    have HA := hid (fun w => vWithin_any b 0 10000 w)
    clear h hs hi hv
    cases hz : zin b 0 10000 with
    | false =>
      rw [hz] at HA HE
      clear hz
      go_enter Try.func76, Try.ntmps76
      go_wp2_with fail
      refine HV.out.mono ?_
      rintro e w1 ⟨hb1, rfl⟩
      have HB1 := hid hb1
      clear hb1
      go_wp2_with fail
      refine (HA.out _).mono ?_
      rintro e w2 ⟨rfl, rfl⟩
      go_wp2
      go_ret
      exact ⟨HB1.out, ret_int (by rw [HE.out]; rfl)⟩
    | true =>
      rw [hz] at HA HE
      clear hz
      go_enter Try.func76, Try.ntmps76
      go_wp2_with fail
      refine HV.out.mono ?_
      rintro e w1 ⟨hb1, rfl⟩
      have HB1 := hid hb1
      clear hb1
      go_wp2_with fail
      refine (HA.out _).mono ?_
      rintro e w2 ⟨rfl, rfl⟩
      go_wp2
      go_ret
      exact ⟨HB1.out, ret_int (by rw [HE.out]; rfl)⟩
  · have HN := hid (show drvE t l o b = touE t l o from if_neg hv)
    have hne : (touE t l o == 0) = false := by simp; exact hv
    clear h hs hi
    generalize touE t l o = e0 at *
    go_enter Try.func76, Try.ntmps76
    go_wp2_with fail
    refine HV.out.mono ?_
    rintro e w1 ⟨hb1, rfl⟩
    have HB1 := hid hb1
    clear hb1
    go_wp2
    go_ret
    exact ⟨HB1.out, ret_int (by rw [HN.out])⟩
end Go.Proofs.Ytbffdpcogfmomaa
