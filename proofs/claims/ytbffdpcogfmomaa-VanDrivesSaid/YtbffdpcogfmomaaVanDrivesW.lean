/- The walk of the law VanDrives. -/
import Derived.Test.YtbffdpcogfmomaaVanChecksW
set_option linter.unusedVariables false
namespace Go.Proofs.Ytbffdpcogfmomaa
open Go.RowKit

def dK (t : Tbl) (l : List St) (o : List Int) (b : Int) : Nat := if drvE t l o b = 0 then o.length else 0
def dR (t : Tbl) (l : List St) (o : List Int) (b : Int) : Int := if drvE t l o b = 0 then backD t l o b else 0
/-- Visits in memory. -/
def VisAt (w : World) (V : Option Addr) (k : Nat) (f0 f1 f2 : Nat → Int) : Prop := k = 0 ∨ ∃ g, V = some ⟨g, 0, none⟩ ∧ ∀ i, i < k → w.cell? ⟨g, i * 3, none⟩ = some (.int .i64 (f0 i)) ∧ w.cell? ⟨g, i * 3 + 1, none⟩ = some (.int .i64 (f1 i)) ∧ w.cell? ⟨g, i * 3 + 2, none⟩ = some (.int .i64 (f2 i))
theorem VisAt.below {w w' : World} {V : Option Addr} {k : Nat} {f0 f1 f2 : Nat → Int} (h : VisAt w V k f0 f1 f2) (hb : Below w.heap.size w w') : VisAt w' V k f0 f1 f2 := by
  rcases h with h | ⟨g, hV, hc⟩
  · exact .inl h
  · refine .inr ⟨g, hV, fun i hi => ?_⟩
    obtain ⟨h0, h1, h2⟩ := hc i hi
    exact ⟨(hb.cell (cell_lt h0)).trans h0, (hb.cell (cell_lt h1)).trans h1, (hb.cell (cell_lt h2)).trans h2⟩
/-- What both Drives answer, flat. -/
def DrvX (k : Nat) (r e : Int) (f0 f1 f2 : Nat → Int) (w : World) (en : Ending) (w' : World) : Prop := Below w.heap.size w w' ∧ ∃ V c, en = .returned (.tuple #[.slice V k c, .int .i64 r, .int .i64 e]) ∧ VisAt w' V k f0 f1 f2
theorem row_vis {w : World} {base ty : Nat} {t : Tbl} {l : List St} {o : List Int} {b : Int} {V : Option Addr} {d : Nat} (hV : w.ownsRow base ty 3 (.slice V o.length d) o.length (visC t l o b o.length)) : VisAt w V o.length (vAt o) (ar t l o b) (fun i => lv t l o b (i + 1)) := by
  rcases hV.2 with ⟨_, h0⟩ | ⟨g, cap, cur, hv, _⟩
  · exact .inl h0
  · simp only [Value.slice.injEq, true_and] at hv
    obtain ⟨rfl, rfl⟩ := hv
    refine .inr ⟨g, rfl, fun k hk => ?_⟩
    obtain ⟨h1, h2, h3⟩ := visC_at t l o b o.length k hk
    exact ⟨(World.ownsRow.cellAt hV _ (by omega)).trans h1, (World.ownsRow.cellAt hV _ (by omega)).trans h2, (World.ownsRow.cellAt hV _ (by omega)).trans h3⟩
theorem drvP_flat {t : Tbl} {l : List St} {o : List Int} {b : Int} {w w' : World} {en : Ending} (h : DriveP t l o b w en w') : DrvX (dK t l o b) (dR t l o b) (drvE t l o b) (vAt o) (ar t l o b) (fun i => lv t l o b (i + 1)) w en w' := by
  refine ⟨h.1, ?_⟩
  unfold dK dR
  rcases h.2 with ⟨he, hx⟩ | ⟨he, V, c, hx, hV⟩
  · rw [if_neg he, if_neg he]
    exact ⟨none, 0, hx, .inl rfl⟩
  · rw [if_pos he, if_pos he, he]
    exact ⟨V, c, hx, row_vis hV⟩
theorem drvR_flat {t : Tbl} {l : List St} {o : List Int} {b : Int} {w w' : World} {en : Ending} (h : DriveRR t l o b w en w') : DrvX (dK t l o b) (dR t l o b) (drvE t l o b) (vAt o) (ar t l o b) (fun i => lv t l o b (i + 1)) w en w' := by
  refine ⟨h.1, ?_⟩
  unfold dK dR
  rcases h.2 with ⟨he, hx⟩ | ⟨he, V, c, hx, hV⟩
  · rw [if_neg he, if_neg he]
    exact ⟨none, 0, hx, .inl rfl⟩
  · rw [if_pos he, if_pos he, he]
    exact ⟨V, c, hx, row_vis hV⟩
theorem dv_keep {g : Nat} {v : Value} {w4 W W' : World} (h : W.cell? ⟨g, 0, none⟩ = some v ∧ Below w4.heap.size w4 W) (hb : Below W.heap.size W W') : W'.cell? ⟨g, 0, none⟩ = some v ∧ Below w4.heap.size w4 W' := ⟨(hb.cell (cell_lt h.1)).trans h.1, h.2.trans (hb.mono h.2.size)⟩
theorem dv_drew {g : Nat} {v : Value} {w4 W : World} (h : W.cell? ⟨g, 0, none⟩ = some v ∧ Below w4.heap.size w4 W) : W.drew.cell? ⟨g, 0, none⟩ = some v ∧ Below w4.heap.size w4 W.drew := ⟨h.1, h.2.drew⟩
set_option maxRecDepth 100000 in
set_option maxHeartbeats 8000000 in
theorem vanDrives_walk (a A B : Option Addr) (t : Tbl) (l : List St) (o : List Int) (b : Int) (cap c d : Nat) (w : World) (h0 : t.length ≤ 9223372036854775807) (h : TabRaw w a t) (l0 : l.length ≤ 9223372036854775807) (hs : l.length ≤ 140737488355328 → StsAt w A l) (o0 : o.length ≤ 9223372036854775807) (ho : o.length ≤ 140737488355328 → Ints w B o) (hbb : -9223372036854775808 ≤ b ∧ b ≤ 9223372036854775807) :
  Calls Try.prog 11 #[.slice a t.length cap, .agg #[.slice A l.length c, .slice B o.length d, .int .i64 b]] w (BoolR w true) := by
  have P0 := hid ((Below.refl w.heap.size w).alloc (Nat.le_refl _) (.cells #[.slice A l.length c, .slice B o.length d, .int .i64 b] 49))
  have K0 := heap_alloc_new w (.cells #[.slice A l.length c, .slice B o.length d, .int .i64 b] 49)
  have c0 := (three_all K0).1
  have c1 := (three_all K0).2.1
  have c2 := (three_all K0).2.2
  obtain ⟨w0, hw0⟩ : ∃ w0, w.alloc (.cells #[.slice A l.length c, .slice B o.length d, .int .i64 b] 49) = w0 := ⟨_, rfl⟩
  have HW0 := hid hw0
  rw [hw0] at P0 K0 c0 c1 c2
  have hz0 : w.heap.size ≤ w0.heap.size := P0.out.size
  have h2 : TabRaw w0 a t := fun hq => by
    rcases h hq with e | ⟨b1, o1, e, hc⟩
    · exact .inl e
    · refine .inr ⟨b1, o1, e, fun i hi => ?_⟩
      obtain ⟨A1, c1, g1, g2, g3⟩ := hc i hi
      exact ⟨A1, c1, (P0.out.cell (cell_lt g1)).trans g1, g2, fun hq => (g3 hq).below P0.out⟩
  have HLa := hid (large_any a t cap w0 h0 h2)
  have HLo := hid (many_any A B l.length o.length c d b w0 l0 o0)
  have HKw := hid (fun (W : World) (hb : Below w.heap.size w W) => (known8_any W).mono (fun en W2 (hp : BoolR W true en W2) => (show BoolR w true en W2 from ⟨hb.trans (hp.1.mono hb.size), hp.2⟩)))
  cases hlg : largeB t with
  | true =>
    rw [hlg] at HLa
    clear h hs ho h2 hlg hw0 K0 c0 c1 c2
    as_aux_lemma =>
      have hw0 := HW0.out
      go_enter Try.func11, Try.ntmps11
      go_wp2_with fail
      clear hw0
      refine HLa.out.mono ?_
      rintro e w1 ⟨rfl, rfl⟩
      go_wp2_with fail
      refine (HKw.out _ P0.out).mono ?_
      rintro e w9 ⟨hb, rfl⟩
      go_wp2
      go_ret
      exact ⟨hb, rfl⟩
  | false =>
    rw [hlg] at HLa
    by_cases hlo : (decide (60 < l.length) || decide (60 < o.length)) = true
    · rw [hlo] at HLo
      clear h hs ho h2 hlg hlo hw0 K0
      as_aux_lemma =>
        have hw0 := HW0.out
        go_enter Try.func11, Try.ntmps11
        go_wp2_with fail
        clear hw0
        refine HLa.out.mono ?_
        rintro e w1 ⟨rfl, rfl⟩
        go_wp2_with fail
        refine HLo.out.mono ?_
        rintro e w2 ⟨rfl, hb2⟩
        have HB2 := hid (P0.out.trans (hb2.mono hz0))
        clear hb2 c0 c1 c2
        go_wp2_with fail
        refine (HKw.out _ HB2.out).mono ?_
        rintro e w9 ⟨hb, rfl⟩
        go_wp2
        go_ret
        exact ⟨hb, rfl⟩
    · rw [Bool.not_eq_true] at hlo
      rw [hlo] at HLo
      have hl6 : l.length ≤ 60 ∧ o.length ≤ 60 := by simp at hlo; omega
      have hT := h2.tab hlg
      have hS := (hs (by omega)).below P0.out
      have hI := (ho (by omega)).below P0.out
      have HT := hid hT
      have HS := hid hS
      have HI := hid hI
      have HK0 := hid K0
      have hl := hl6.1
      have hol := hl6.2
      clear h hs ho h2 hlg hlo hw0 K0 c0 c1 c2 hl6 hT hS hI
      have H1 := hid (fun (W : World) (hb : Below w0.heap.size w0 W) => (vDriveP_any a A B t l o b cap c d W (HT.out.below hb) (HS.out.below hb) (HI.out.below hb) (by omega)).mono (fun en W2 hp => drvP_flat hp))
      have H2 := hid (fun (W : World) (hb : Below w0.heap.size w0 W) => (rDriveR_any a A B t l o b cap c d W (HT.out.below hb) (HS.out.below hb) (HI.out.below hb) (by omega)).mono (fun en W2 hp => drvR_flat hp))
      have H3 := hid (fun (W : World) (hb : Below w0.heap.size w0 W) => vStops_any a A t l cap c W (HT.out.below hb) (HS.out.below hb))
      have H4 := hid (fun (W : World) (hb : Below w0.heap.size w0 W) => rStops_any a A t l cap c W (HT.out.below hb) (HS.out.below hb))
      have hk6 : dK t l o b ≤ 60 := by unfold dK; split <;> omega
      clear HT HS HI
      obtain ⟨r, hr⟩ : ∃ r, dR t l o b = r := ⟨_, rfl⟩
      obtain ⟨k, hk⟩ : ∃ k, dK t l o b = k := ⟨_, rfl⟩
      obtain ⟨e9, he9⟩ : ∃ e9, drvE t l o b = e9 := ⟨_, rfl⟩
      obtain ⟨s9, hs9⟩ : ∃ s9, stsE t l = s9 := ⟨_, rfl⟩
      rw [hr, hk, he9] at H1 H2
      rw [hs9] at H3 H4
      rw [hk] at hk6
      clear hr hk he9 hs9
      have c0 := (three_all HK0.out).1
      have c1 := (three_all HK0.out).2.1
      have c2 := (three_all HK0.out).2.2
      have hw0 := HW0.out
      go_enter Try.func11, Try.ntmps11
      go_wp2_with fail
      clear hw0
      refine HLa.out.mono ?_
      rintro e w1 ⟨rfl, rfl⟩
      go_wp2_with fail
      refine HLo.out.mono ?_
      rintro e w2 ⟨rfl, hb2⟩
      have HB2 := hid (P0.out.trans (hb2.mono hz0))
      have HX2 := hid hb2
      have HK2 := hid (blk_keep HK0.out hb2)
      have c0 := (three_all HK2.out).1
      have c1 := (three_all HK2.out).2.1
      have c2 := (three_all HK2.out).2.2
      clear hb2
      obtain ⟨f1, hf1⟩ : ∃ f1, ar t l o b = f1 := ⟨_, rfl⟩
      obtain ⟨f2, hf2⟩ : ∃ f2, (fun i => lv t l o b (i + 1)) = f2 := ⟨_, rfl⟩
      rw [hf1, hf2] at H1 H2
      clear hf1 hf2
      go_wp2_with fail
      refine (H1.out _ HX2.out).mono ?_
      rintro e w3 ⟨hb3, V, v3, rfl, hV⟩
      have HB3 := hid (HB2.out.trans (hb3.mono HB2.out.size))
      have HX3 := hid (HX2.out.trans (hb3.mono HX2.out.size))
      have HK3 := hid (blk_keep HK2.out hb3)
      have HC3 := hid ((H2.out _ HX3.out))
      have HV := hid hV
      have c0 := (three_all HK3.out).1
      have c1 := (three_all HK3.out).2.1
      have c2 := (three_all HK3.out).2.2
      clear hb3 hV
      go_wp2_with fail
      refine HC3.out.mono ?_
      rintro e w4 ⟨hb4, U, v4, rfl, hU⟩
      have HB4 := hid (HB3.out.trans (hb4.mono HB3.out.size))
      have HX4 := hid (HX3.out.trans (hb4.mono HX3.out.size))
      have HK4 := hid (blk_keep HK3.out hb4)
      have HVb := hid (HV.out.below hb4)
      have HU := hid hU
      have c0 := (three_all HK4.out).1
      clear hb4 hU c1 c2 HC3
      go_wp2_with fail
      have S0 := hid (show w4.cell? ⟨w.heap.size, 0, none⟩ = some (.slice A l.length c) ∧ Below w4.heap.size w4 w4 from ⟨c0, Below.refl _ _⟩)
      have HY3 := hid (fun (W : World) (h : W.cell? ⟨w.heap.size, 0, none⟩ = some (.slice A l.length c) ∧ Below w4.heap.size w4 W) => H3.out W (HX4.out.trans (h.2.mono HX4.out.size)))
      have HY4 := hid (fun (W : World) (h : W.cell? ⟨w.heap.size, 0, none⟩ = some (.slice A l.length c) ∧ Below w4.heap.size w4 W) => H4.out W (HX4.out.trans (h.2.mono HX4.out.size)))
      clear c0
      as_aux_lemma =>
        go_region_held3 (fun w' => w'.cell? ⟨w.heap.size, 0, none⟩ = some (.slice A l.length c) ∧ Below w4.heap.size w4 w') (first | exact dv_drew S0.out | exact dv_keep (by assumption) (by assumption))
          (first
            | (go_at_call 44; refine (HY3.out _ ?_).mono ?_; (assumption); rintro e w5 ⟨hb5, rfl⟩)
            | (go_at_call 45; refine (HY4.out _ ?_).mono ?_; (assumption); rintro e w6 ⟨hb6, rfl⟩))
        rename w6.cell? _ = _ ∧ _ => hHeld
        have HB6 := hid (HB4.out.trans (hHeld.2.mono HB4.out.size))
        have HV6 := hid (HVb.out.below hHeld.2)
        have HU6 := hid (HU.out.below hHeld.2)
        clear hHeld hb5 hb6 HY3 HY4 S0
        go_wp2_with fail
        go_loopw [11] (fun i wr => ∃ (j : Nat), j ≤ k ∧ i = .int .i64 j ∧ Hid (Below w6.heap.size w6 wr)) (fun i _ => k - (intOf i).toNat)
        case atStart => exact ⟨0, Nat.zero_le _, rfl, Below.refl _ _⟩
        case round =>
          obtain ⟨j, hj, rfl, HBr⟩ := hrel
          by_cases hlt : j < k
          · rcases HV6.out.below HBr.out with h | ⟨g, rfl, hc⟩
            · omega
            rcases HU6.out.below HBr.out with h | ⟨g', rfl, hc'⟩
            · omega
            obtain ⟨x0, x1, x2⟩ := hc j hlt
            obtain ⟨y0, y1, y2⟩ := hc' j hlt
            have q1 : (j : Int) < (k : Int) := by omega
            clear hc hc'
            generalize vAt o j = p0 at *
            generalize f1 j = p1 at *
            generalize f2 j = p2 at *
            go_wp2_with fail
            go_quiet (fail)
            go_wp2
            go_roundw
            case rel => exact ⟨j + 1, by omega, by go_num, below_drewN HBr.out _⟩
            case measure => simp [intOf]; omega
          · go_wp2_with fail
            refine (HKw.out _ (HB6.out.trans (HBr.out.mono HB6.out.size))).mono ?_
            rintro e w9 ⟨hb, rfl⟩
            go_wp2
            go_ret
            exact ⟨hb, rfl⟩
end Go.Proofs.Ytbffdpcogfmomaa
