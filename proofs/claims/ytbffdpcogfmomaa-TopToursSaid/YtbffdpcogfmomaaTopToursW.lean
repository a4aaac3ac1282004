/- The walk of the theorem TopTours. -/
import Derived.Test.YtbffdpcogfmomaaVanEarliestW
import Derived.Test.YtbffdpcogfmomaaVanShortestW
import Derived.Test.YtbffdpcogfmomaaVaIm
import Derived.Deep.Cut
import Derived.Deep.CutRange
set_option linter.unusedVariables false
namespace Go.Proofs.Ytbffdpcogfmomaa
open Go.RowKit

def exT : Tbl := [[0, 4], [4, 0]]
theorem exT_va : vaV exT = 0 := by decide +kernel
theorem exT_short : IsShort exT 8 := by
  have key : ∀ f, IsTour f exT.length → f = [1] := by
    intro f hf
    have hl := hf.len
    match f, hl with
    | [x], _ =>
      have := hf.mem (x := x) (by simp)
      simp [exT] at this
      have : x = 1 := by omega
      rw [this]
  refine ⟨⟨[1], List.Perm.refl _, by decide +kernel⟩, fun q hq => ?_⟩
  rw [key q hq]
  decide +kernel
theorem exT_tab (w : World) (b0 b1 b3 : Nat) (h0 : w.heap[b0]? = some (.cells #[.int .i64 0, .int .i64 4] 3 (0, 0))) (h1 : w.heap[b1]? = some (.cells #[.int .i64 4, .int .i64 0] 3 (0, 0)))
    (h3 : w.heap[b3]? = some (.cells #[.slice (some ⟨b0, 0, none⟩) 2 2, .slice (some ⟨b1, 0, none⟩) 2 2] 23 (0, 0))) : TabAt w (some ⟨b3, 0, none⟩) exT := by
  refine ⟨by decide, .inr ⟨b3, 0, rfl, fun i hi => ?_⟩⟩
  have hi3 : i < 2 := hi
  have e : i = 0 ∨ i = 1 := by omega
  rcases e with rfl | rfl
  · exact ⟨_, 2, by unfold World.cell?; simp [h3]; rfl, row_own (xs := [0, 4]) h0 (by decide) (by decide)⟩
  · exact ⟨_, 2, by unfold World.cell?; simp [h3]; rfl, row_own (xs := [4, 0]) h1 (by decide) (by decide)⟩
/-- A list without repetition of numbers below n has no more than n. -/
theorem pigeonT (n : Nat) : ∀ o : List Int, o.Nodup → (∀ x ∈ o, 0 ≤ x ∧ x < n) → o.length ≤ n ∧ (o.length = n → o.Perm (ioz n)) := by
  induction n with
  | zero =>
    intro o _ h
    cases o with
    | nil => exact ⟨Nat.le_refl _, fun _ => List.Perm.refl _⟩
    | cons x t => have := h x (by simp); omega
  | succ n ih =>
    intro o hn h
    by_cases hm : (n : Int) ∈ o
    · obtain ⟨a, b, rfl⟩ := List.append_of_mem hm
      have hp : (a ++ (n : Int) :: b).Perm ((n : Int) :: (a ++ b)) := List.perm_middle
      have hn2 := hp.nodup_iff.1 hn
      rw [List.nodup_cons] at hn2
      obtain ⟨i1, i2⟩ := ih (a ++ b) hn2.2 (fun x hx => by
        have h1 := h x (hp.mem_iff.2 (by simp only [List.mem_cons]; exact .inr hx))
        have h2 : x ≠ (n : Int) := fun e => hn2.1 (e ▸ hx)
        omega)
      have hl : (a ++ (n : Int) :: b).length = (a ++ b).length + 1 := by simp; omega
      refine ⟨by omega, fun e => ?_⟩
      rw [ioz_succ]
      exact hp.trans (((i2 (by omega)).cons _).trans (List.perm_append_singleton _ _).symm)
    · obtain ⟨i1, i2⟩ := ih o hn (fun x hx => by
        have h1 := h x hx
        have h2 : x ≠ (n : Int) := fun e => hm (e ▸ hx)
        omega)
      exact ⟨by omega, fun e => by omega⟩
theorem tour_of {o : List Int} {n : Nat} (hn : o.Nodup) (hs : StopsOk o n) (hl : o.length = n - 1) : IsTour o n := by
  have h1 : (o.map (· - 1)).Nodup := by
    rw [List.nodup_iff_pairwise_ne, List.pairwise_map]
    rw [List.nodup_iff_pairwise_ne] at hn
    exact hn.imp (fun {a b} h e => h (by omega))
  have h2 := (pigeonT (n - 1) (o.map (· - 1)) h1 (fun x hx => by
    obtain ⟨y, hy, rfl⟩ := List.mem_map.1 hx
    have := hs y hy
    omega)).2 (by rw [List.length_map]; exact hl)
  have h3 := h2.map (· + 1)
  unfold IsTour
  rw [stops_inc]
  unfold incR
  simpa [Function.comp_def] using h3
theorem chk_fin {t : Tbl} {l : List St} {o : List Int} {b : Int} {w w' : World} {en : Ending} (h : ChkR t l o b w en w') : Below w.heap.size w w' ∧ ∃ n f : Int, en = .returned (.tuple #[.int .i64 n, .int .i64 f]) ∧ (f = 0 → drvE t l o b = 0 ∧ inTB t l o b = true ∧ n = backD t l o b) := by
  refine ⟨h.1, ?_⟩
  rcases h.2 with ⟨e, h⟩ | ⟨e, m, hm, h⟩
  · exact ⟨_, _, h, fun h0 => absurd h0 e⟩
  · refine ⟨_, _, h, fun h0 => ?_⟩
    by_cases hlt : m < o.length
    · rw [if_pos hlt] at h0; cases h0
    · have := hm.le
      have hme : m = o.length := by omega
      refine ⟨e, ?_, by rw [if_neg hlt]⟩
      rw [hm.inT]; exact decide_eq_true hme
theorem drv_nil {t : Tbl} {l : List St} {o : List Int} {b : Int} (h : drvE t l o b = 0) : drvE t l [] b = 0 := by
  obtain ⟨_, _, _, _, hb⟩ := drvE_ok h
  have h1 : touE t l o = 0 := by
    by_cases hh : touE t l o = 0
    · exact hh
    · rw [drvE_tou hh] at h; exact h
  have h2 : stsE t l = 0 := by
    unfold touE at h1
    by_cases hh : stsE t l = 0
    · exact hh
    · rw [if_neg hh] at h1; exact h1
  exact drvE_zin (by rw [touE_nil]; exact h2) (by simp [zin]; omega)
theorem impT_good {t : Tbl} {p : List Int} {w w' : World} {en : Ending} (he : ptE t p = 0) (h : ImpQ t p w en w') : Below w.heap.size w w' ∧ ∃ A c q B, en = .returned (.tuple #[.slice A t.length c, .int .i64 0]) ∧ Ints w' A q ∧ Pots q t.length ∧ BoundIs t q B ∧ (∀ B0, BoundIs t p B0 → B0 ≤ B) := by
  refine ⟨h.1, ?_⟩
  rcases h.2 with ⟨h, _⟩ | ⟨_, A, c, q, B, h1, h2, h3, h4, h5, _⟩
  · exact absurd he h
  · exact ⟨A, c, q, B, h1, h2, h3, h4, h5⟩
theorem four_all {w : World} {B : Nat} {u v x y : Value} {t : TypeId} (h : w.heap[B]? = some (.cells #[u, v, x, y] t (0, 0))) : w.cell? ⟨B, 0, none⟩ = some u ∧ w.cell? ⟨B, 1, none⟩ = some v ∧ w.cell? ⟨B, 2, none⟩ = some x ∧ w.cell? ⟨B, 3, none⟩ = some y := by
  unfold World.cell?; simp [h]
theorem alloc3T (w : World) (o0 o1 o2 : Obj) : (((w.alloc o0).alloc o1).alloc o2).heap[w.heap.size]? = some o0 ∧ (((w.alloc o0).alloc o1).alloc o2).heap[w.heap.size + 1]? = some o1 ∧ (((w.alloc o0).alloc o1).alloc o2).heap[w.heap.size + 1 + 1]? = some o2 ∧ Below w.heap.size w (((w.alloc o0).alloc o1).alloc o2) := by
  have b1 := (Below.refl w.heap.size w).alloc (Nat.le_refl _) o0
  have s1 : (w.alloc o0).heap.size = w.heap.size + 1 := by simp
  have s2 : ((w.alloc o0).alloc o1).heap.size = w.heap.size + 1 + 1 := by simp
  have k : ∀ (W : World) (i : Nat) (ob o : Obj), W.heap[i]? = some ob → (W.alloc o).heap[i]? = some ob := fun W i ob o h => by
    rw [((Below.refl _ W).alloc (Nat.le_refl _) o).block i (lt_block h)]; exact h
  refine ⟨k _ _ _ _ (k _ _ _ _ (heap_alloc_new w o0)), ?_, ?_, (b1.alloc (by omega) o1).alloc (by omega) o2⟩
  · rw [← s1]; exact k _ _ _ _ (heap_alloc_new _ o1)
  · rw [← s2]; exact heap_alloc_new _ o2
set_option maxRecDepth 100000 in
set_option maxHeartbeats 8000000 in
theorem topTours_walk (a A P B O : Option Addr) (t : Tbl) (l : List St) (p o q : List Int) (b : Int) (cap c pc oc qc : Nat) (w : World) (h0 : t.length ≤ 9223372036854775807) (h : TabRaw w a t) (l0 : l.length ≤ 9223372036854775807) (hs : l.length ≤ 140737488355328 → StsAt w A l) (hcap : l.length ≤ c)
    (p0 : p.length ≤ 9223372036854775807) (hp : p.length ≤ 140737488355328 → Ints w P p) (o0 : o.length ≤ 9223372036854775807) (ho : o.length ≤ 140737488355328 → Ints w B o) (q0 : q.length ≤ 9223372036854775807) (hq : q.length ≤ 140737488355328 → Ints w O q) (hbb : -9223372036854775808 ≤ b ∧ b ≤ 9223372036854775807) :
  Calls Try.prog 16 #[.slice a t.length cap, .slice A l.length c, .agg #[.slice P p.length pc, .slice B o.length oc, .slice O q.length qc, .int .i64 b]] w (BoolR w true) := by
  have P0 := hid ((Below.refl w.heap.size w).alloc (Nat.le_refl _) (.cells #[.slice P p.length pc, .slice B o.length oc, .slice O q.length qc, .int .i64 b] 72))
  have K0 := heap_alloc_new w (.cells #[.slice P p.length pc, .slice B o.length oc, .slice O q.length qc, .int .i64 b] 72)
  obtain ⟨w0, hw0⟩ : ∃ w0, w.alloc (.cells #[.slice P p.length pc, .slice B o.length oc, .slice O q.length qc, .int .i64 b] 72) = w0 := ⟨_, rfl⟩
  rw [hw0] at P0 K0
  have hz0 : w.heap.size ≤ w0.heap.size := P0.out.size
  have HA := hid (alloc3T w0 (.cells #[.int .i64 0, .int .i64 4] 3) (.cells #[.int .i64 4, .int .i64 0] 3) (.cells #[.slice (some ⟨w0.heap.size, 0, none⟩) 2 2, .slice (some ⟨w0.heap.size + 1, 0, none⟩) 2 2] 23))
  have HS := hid (fun (W : World) (h : TabAt W (some ⟨w0.heap.size + 1 + 1, 0, none⟩) exT) => (show Calls Try.prog 24 #[.slice (some ⟨w0.heap.size + 1 + 1, 0, none⟩) 2 2] W (NumE W (IsShort exT) 0) from by
    have := vShortest_any (some ⟨w0.heap.size + 1 + 1, 0, none⟩) exT 2 W h
    rw [exT_va] at this
    exact this))
  have h2 : TabRaw w0 a t := fun hq => by
    rcases h hq with e | ⟨b1, o1, e, hc⟩
    · exact .inl e
    · refine .inr ⟨b1, o1, e, fun i hi => ?_⟩
      obtain ⟨A1, c1, g1, g2, g3⟩ := hc i hi
      exact ⟨A1, c1, (P0.out.cell (cell_lt g1)).trans g1, g2, fun hq => (g3 hq).below P0.out⟩
  have HLa := hid (fun (W : World) (hb : Below w0.heap.size w0 W) => large_any a t cap W h0 (fun hq => by
    rcases h2 hq with e | ⟨b1, o1, e, hc⟩
    · exact .inl e
    · refine .inr ⟨b1, o1, e, fun i hi => ?_⟩
      obtain ⟨A1, c1, g1, g2, g3⟩ := hc i hi
      exact ⟨A1, c1, (hb.cell (cell_lt g1)).trans g1, g2, fun hq => (g3 hq).below hb⟩))
  have HK0 := hid K0
  clear K0
  by_cases hbig : largeB t = true ∨ 60 < l.length ∨ 60 < p.length ∨ 60 < o.length ∨ 60 < q.length
  · clear h hs hp ho hq h2 hcap
    have HBg := hid hbig
    clear hbig
    as_aux_lemma =>
      go_enter Try.func16, Try.ntmps16
      go_wp2_with fail
      clear hw0
      obtain ⟨x0, x1, x2, xb⟩ := HA.out
      have T1 := exT_tab _ _ _ _ x0 x1 x2
      clear x0 x1 x2
      generalize (((w0.alloc (.cells #[.int .i64 0, .int .i64 4] 3)).alloc (.cells #[.int .i64 4, .int .i64 0] 3)).alloc (.cells #[.slice (some ⟨w0.heap.size, 0, none⟩) 2 2, .slice (some ⟨w0.heap.size + 1, 0, none⟩) 2 2] 23)) = w1 at *
      refine (HS.out w1 T1).mono ?_
      intro e w2 hr
      obtain ⟨hb2, v, rfl, hv⟩ := numE_good rfl hr
      obtain rfl := hv.eq exT_short
      have HX2 := hid (xb.trans (hb2.mono xb.size))
      have HB2 := hid (P0.out.trans (HX2.out.mono hz0))
      have HK2 := hid (blk_keep HK0.out HX2.out)
      obtain ⟨c0, c1, c2, c3⟩ := four_all HK2.out
      clear hb2 hv T1 xb hr HA
      cases hlg : largeB t with
      | true =>
        rw [hlg] at HLa
        go_wp2_with fail
        refine (HLa.out _ HX2.out).mono ?_
        rintro e w3 ⟨rfl, rfl⟩
        go_wp2
        go_ret
        exact ⟨HB2.out, rfl⟩
      | false =>
        rw [hlg] at HLa
        have hb9 : 60 < l.length ∨ 60 < p.length ∨ 60 < o.length ∨ 60 < q.length := by
          have := HBg.out
          rw [hlg] at this
          simpa using this
        by_cases g1 : 60 < l.length
        · have g1' : (60 : Int) < (l.length : Int) := by omega
          clear hb9
          go_wp2_with fail
          refine (HLa.out _ HX2.out).mono ?_
          rintro e w3 ⟨rfl, rfl⟩
          go_wp2
          go_ret
          exact ⟨HB2.out, rfl⟩
        · have g1' : (l.length : Int) ≤ 60 := by omega
          by_cases g2 : 60 < p.length
          · have g2' : (60 : Int) < (p.length : Int) := by omega
            clear hb9
            go_wp2_with fail
            refine (HLa.out _ HX2.out).mono ?_
            rintro e w3 ⟨rfl, rfl⟩
            go_wp2
            go_ret
            exact ⟨HB2.out, rfl⟩
          · have g2' : (p.length : Int) ≤ 60 := by omega
            by_cases g3 : 60 < o.length
            · have g3' : (60 : Int) < (o.length : Int) := by omega
              clear hb9
              go_wp2_with fail
              refine (HLa.out _ HX2.out).mono ?_
              rintro e w3 ⟨rfl, rfl⟩
              go_wp2
              go_ret
              exact ⟨HB2.out, rfl⟩
            · have g3' : (o.length : Int) ≤ 60 := by omega
              have g4' : (60 : Int) < (q.length : Int) := by omega
              clear hb9
              go_wp2_with fail
              refine (HLa.out _ HX2.out).mono ?_
              rintro e w3 ⟨rfl, rfl⟩
              go_wp2
              go_ret
              exact ⟨HB2.out, rfl⟩
  · have hlg : largeB t = false := by
      cases hh : largeB t with
      | false => rfl
      | true => exact absurd (.inl hh) hbig
    have g1 : l.length ≤ 60 := by omega
    have g2 : p.length ≤ 60 := by omega
    have g3 : o.length ≤ 60 := by omega
    have g4 : q.length ≤ 60 := by omega
    have HT := hid (h2.tab hlg)
    have HSt := hid ((hs (by omega)).below P0.out)
    have HIp := hid ((hp (by omega)).below P0.out)
    have HIo := hid ((ho (by omega)).below P0.out)
    have HIq := hid ((hq (by omega)).below P0.out)
    rw [hlg] at HLa
    clear h hs hp ho hq h2 hbig hlg
    have H1 := hid (fun (W : World) (hb : Below w0.heap.size w0 W) => vShortest_any a t cap W (HT.out.below hb))
    by_cases hv : vaV t = 0
    · have hws := (ways_iff t).1 hv
      have hl7 := hws.len
      have hpos := hws.pos
      have HV := hid hv
      have HWy := hid hws
      have H1g := hid (fun (W : World) (hb : Below w0.heap.size w0 W) => (H1.out W hb).mono (fun en W2 hp => numE_good HV.out hp))
      have H2 := hid (fun (W : World) (hb : Below w0.heap.size w0 W) => (vTour_any a t cap W (HT.out.below hb)).mono (fun en W2 hp => tourR_good HV.out hp))
      have H3 := hid (fun (W : World) (hb : Below w0.heap.size w0 W) (F : Option Addr) (f : List Int) (d : Nat) (hI : Ints W F f) (hf : f.length ≤ 100) => vLengthP_any a F t f cap d W (HT.out.below hb) hI hf)
      have H4 := hid (fun (W : World) (hb : Below w0.heap.size w0 W) => (vTreeP_any a t cap W (HT.out.below hb)).mono (fun en W2 hp => numE_good HV.out hp))
      have H5 := hid (fun (W : World) (hb : Below w0.heap.size w0 W) (F : Option Addr) (f : List Int) (d : Nat) (hI : Ints W F f) => vBoundP_any a F t f cap d W (HT.out.below hb) hI)
      have H6 := hid (fun (W : World) (hb : Below w0.heap.size w0 W) => vImprove_any a P t p cap pc W (HT.out.below hb) (HIp.out.below hb))
      have H7 := hid (fun (W : World) (hb : Below w0.heap.size w0 W) => vEarliest_any a A t l b cap c W (HT.out.below hb) (HSt.out.below hb) hcap)
      have H8 := hid (fun (W : World) (hb : Below w0.heap.size w0 W) => (vCheck_any a A O t l q b cap c qc W (HT.out.below hb) (HSt.out.below hb) (HIq.out.below hb) (by omega)).mono (fun en W2 hp => chk_fin hp))
      clear hv hws H1 hcap
      have g1' : (l.length : Int) ≤ 60 := by omega
      have g2' : (p.length : Int) ≤ 60 := by omega
      have g3' : (o.length : Int) ≤ 60 := by omega
      have g4' : (q.length : Int) ≤ 60 := by omega
      go_enter Try.func16, Try.ntmps16
      go_wp2_with fail
      clear hw0
      obtain ⟨x0, x1, x2, xb⟩ := HA.out
      have T1 := exT_tab _ _ _ _ x0 x1 x2
      clear x0 x1 x2
      generalize (((w0.alloc (.cells #[.int .i64 0, .int .i64 4] 3)).alloc (.cells #[.int .i64 4, .int .i64 0] 3)).alloc (.cells #[.slice (some ⟨w0.heap.size, 0, none⟩) 2 2, .slice (some ⟨w0.heap.size + 1, 0, none⟩) 2 2] 23)) = w1 at *
      refine (HS.out w1 T1).mono ?_
      intro e w2 hr
      obtain ⟨hb2, v, rfl, hv⟩ := numE_good rfl hr
      obtain rfl := hv.eq exT_short
      have HX2 := hid (xb.trans (hb2.mono xb.size))
      have HB2 := hid (P0.out.trans (HX2.out.mono hz0))
      have HK2 := hid (blk_keep HK0.out HX2.out)
      obtain ⟨c0, c1, c2, c3⟩ := four_all HK2.out
      clear hb2 hv T1 xb hr HA
      go_wp2_with fail
      refine (HLa.out _ HX2.out).mono ?_
      rintro e w3 ⟨rfl, rfl⟩
      go_wp2_with fail
      refine (H1g.out _ HX2.out).mono ?_
      rintro e w4 ⟨hb4, m, rfl, hm⟩
      have HX4 := hid (HX2.out.trans (hb4.mono HX2.out.size))
      have HM := hid hm
      clear hb4 hm
      go_wp2_with fail
      refine (H2.out _ HX4.out).mono ?_
      rintro e w5 ⟨hb5, F, fc, f, rfl, hI, hf, hsh⟩
      have HX5 := hid (HX4.out.trans (hb5.mono HX4.out.size))
      have hfl := hf.len
      have HC5 := hid (H3.out w5 HX5.out F f fc hI (by omega))
      obtain ⟨e1, e2⟩ := lenE_tour HV.out hf
      rw [e1, e2, hsh.eq HM.out] at HC5
      obtain ⟨n1, hn1⟩ : ∃ n1, f.length = n1 := ⟨_, rfl⟩
      rw [hn1] at hfl HC5 ⊢
      have HN1 := hid hfl
      have hd : ((n1 : Int) == (t.length : Int) - 1) = true := by simp; omega
      have hd' : ((n1 : Int) != (t.length : Int) - 1) = false := by simp; omega
      have hpos' : (1 : Int) ≤ (t.length : Int) := by omega
      have hn6 : n1 ≤ 6 := by omega
      clear hb5 hI hf hsh e1 e2 hn1 hfl
      go_wp2_with fail
      refine HC5.out.mono ?_
      rintro e w6 ⟨hb6, rfl⟩
      have HX6 := hid (HX5.out.trans (hb6.mono HX5.out.size))
      clear hb6 HC5
      go_wp2_with fail
      refine (H4.out _ HX6.out).mono ?_
      rintro e w7 ⟨hb7, tr, rfl, htr⟩
      have HX7 := hid (HX6.out.trans (hb7.mono HX6.out.size))
      have htm : tr ≤ m := by
        obtain ⟨f9, hf9, e9⟩ := HM.out.1
        have := Mst.tour HWy.out htr hf9
        omega
      have HK7 := hid (blk_keep HK0.out HX7.out)
      obtain ⟨c0, c1, c2, c3⟩ := four_all HK7.out
      clear hb7 htr
      go_upto_if 121 with (fail)
      go_step
      go_step
      go_step
      go_step
      go_step
      go_cut [17, 18] from 122 to 143 (fun s17 s18 wx => Hid (Below w0.heap.size w0 wx))
      case first =>
        have HCo := hid (H3.out w7 HX7.out B o oc (HIo.out.below HX7.out) (by omega))
        by_cases e1 : lenE t o = 0
        · have HE1 := hid e1
          obtain ⟨v, hv⟩ : ∃ v, lenV8 t o = v := ⟨_, rfl⟩
          have HVv := hid hv
          rw [e1, hv] at HCo
          clear hv e1
          by_cases e2 : o.length = n1
          · have hmv : m ≤ v := by
              obtain ⟨_, h2, h3⟩ := lenE_ok HE1.out
              have ht := tour_of h3 h2 (by rw [e2, HN1.out])
              have h4 := HM.out.2 o ht
              have h5 : lenV8 t o = tourL t o := by unfold lenV8; rw [if_pos HE1.out]
              rw [← HVv.out, h5]; exact h4
            have d1 : ((o.length : Int) == (n1 : Int)) = true := by simp; omega
            have d2 : decide (v < m) = false := decide_eq_false (by omega)
            have d3 : ¬ v < m := by omega
            clear e2 hmv
            go_wp2_with fail
            refine HCo.out.mono ?_
            rintro e w8 ⟨hb8, rfl⟩
            have HX8 := hid (HX7.out.trans (hb8.mono HX7.out.size))
            have HK8 := hid (blk_keep HK0.out HX8.out)
            obtain ⟨c0, c1, c2, c3⟩ := four_all HK8.out
            clear hb8 HCo
            go_wp2_with fail
            go_meet
            case rel => exact HX8
          · have d1 : ((o.length : Int) == (n1 : Int)) = false := by simp; omega
            clear e2
            go_wp2_with fail
            refine HCo.out.mono ?_
            rintro e w8 ⟨hb8, rfl⟩
            have HX8 := hid (HX7.out.trans (hb8.mono HX7.out.size))
            have HK8 := hid (blk_keep HK0.out HX8.out)
            obtain ⟨c0, c1, c2, c3⟩ := four_all HK8.out
            clear hb8 HCo
            go_wp2_with fail
            go_meet
            case rel => exact HX8
        · obtain ⟨e0, he0⟩ : ∃ e0, lenE t o = e0 := ⟨_, rfl⟩
          obtain ⟨v, hv⟩ : ∃ v, lenV8 t o = v := ⟨_, rfl⟩
          rw [he0, hv] at HCo
          rw [he0] at e1
          have d1 : (e0 == 0) = false := by simp; exact e1
          clear he0 hv e1
          go_wp2_with fail
          refine HCo.out.mono ?_
          rintro e w8 ⟨hb8, rfl⟩
          have HX8 := hid (HX7.out.trans (hb8.mono HX7.out.size))
          have HK8 := hid (blk_keep HK0.out HX8.out)
          obtain ⟨c0, c1, c2, c3⟩ := four_all HK8.out
          clear hb8 HCo
          go_wp2_with fail
          go_meet
          case rel => exact HX8
      case rest =>
        have HX8 := hcut
        clear hcut HX7 HX6 HX5 HX4 HX2 HK7
        have HK8 := hid (blk_keep HK0.out HX8.out)
        obtain ⟨c0, c1, c2, c3⟩ := four_all HK8.out
        go_step
        go_step
        go_cut [19, 20, 21, 22, 23, 24] from 144 to 186 (fun s19 s20 s21 s22 s23 s24 wx => Hid (Below w0.heap.size w0 wx))
        case first =>
          have HBd := hid (H5.out wc HX8.out P p pc (HIp.out.below HX8.out))
          by_cases hpt : ptE t p = 0
          · have HPt := hid hpt
            obtain ⟨_, h3, _⟩ := (ptE_iff t p).1 hpt
            have hpw := (ptE_iff t p).1 hpt
            have HPw := hid hpw
            rw [hpt] at HBd
            clear hpt hpw
            go_wp2_with fail
            refine HBd.out.mono ?_
            intro e w8 hr8
            obtain ⟨hb8, B1, rfl, hB1⟩ := numE_good rfl hr8
            have HX9 := hid (HX8.out.trans (hb8.mono HX8.out.size))
            have HBI := hid hB1
            have HK9 := hid (blk_keep HK0.out HX9.out)
            obtain ⟨c0, c1, c2, c3⟩ := four_all HK9.out
            clear hb8 hr8 hB1 HBd
            go_wp2_with fail
            refine (H6.out _ HX9.out).mono ?_
            intro e w9 hr9
            obtain ⟨hb9, A3, c9, q9, B4, rfl, hI9, hP9, hB4, hge⟩ := impT_good HPt.out hr9
            have HX10 := hid (HX9.out.trans (hb9.mono HX9.out.size))
            have hp9 : ptE t q9 = 0 := (ptE_iff t q9).2 ⟨HWy.out, h3, hP9⟩
            have hC := H5.out w9 HX10.out A3 q9 c9 hI9
            rw [hp9, hP9.len] at hC
            have HC9 := hid hC
            have hbm : B1 ≤ m ∧ B4 ≤ m ∧ B1 ≤ B4 := by
              obtain ⟨f9, hf9, e9⟩ := HM.out.1
              have k1 := HBI.out.le HWy.out h3 HPw.out.2.2 hf9
              have k2 := hB4.le HWy.out h3 hP9 hf9
              have k3 := hge B1 HBI.out
              omega
            have HB4 := hid hB4
            have d1 : decide (m < B1) = false := decide_eq_false (by omega)
            have d2 : decide (m < B4) = false := decide_eq_false (by omega)
            have d3 : decide (B4 < B1) = false := decide_eq_false (by omega)
            have d1' : B1 ≤ m := hbm.1
            have d2' : B4 ≤ m := hbm.2.1
            have d3' : B1 ≤ B4 := hbm.2.2
            clear hb9 hr9 hI9 hP9 hB4 hge hp9 hC hbm
            go_wp2_with fail
            refine HC9.out.mono ?_
            intro e w10 hr10
            obtain ⟨hb10, B5, rfl, hB5⟩ := numE_good rfl hr10
            obtain rfl := hB5.eq HB4.out
            have HX11 := hid (HX10.out.trans (hb10.mono HX10.out.size))
            clear hb10 hr10 hB5 HC9
            go_wp2_with fail
            go_meet
            case rel => exact HX11
          · obtain ⟨e0, he0⟩ : ∃ e0, ptE t p = e0 := ⟨_, rfl⟩
            rw [he0] at HBd hpt
            have HN0 := hid hpt
            have d1 : (e0 == 0) = false := by simp; exact hpt
            clear he0 hpt
            go_wp2_with fail
            refine HBd.out.mono ?_
            intro e w8 hr8
            obtain ⟨hb8, rfl⟩ := numE_bad HN0.out hr8
            have HX9 := hid (HX8.out.trans (hb8.mono HX8.out.size))
            clear hb8 hr8 HBd
            go_wp2_with fail
            go_meet
            case rel => exact HX9
        case rest =>
          have HX9 := hcut
          clear hcut HX8 HK8 c0 c1 c2 c3
          have HK9 := hid (blk_keep HK0.out HX9.out)
          obtain ⟨c0, c1, c2, c3⟩ := four_all HK9.out
          have hq3 : (∃ e0, e0 = drvE t l [] b ∧ e0 ≠ 0) ∨ drvE t l [] b = 0 := by
            by_cases h : drvE t l [] b = 0
            · exact .inr h
            · exact .inl ⟨_, rfl, h⟩
          rcases hq3 with ⟨e0, he0, hne⟩ | heq
          · have HNE := hid hne
            have HE0 := hid he0
            have hnn : (e0 != 0) = true := by simp; exact hne
            have hne2 : (e0 == 0) = false := by simp; exact hne
            clear he0 hne
            as_aux_lemma =>
              go_wp2_with fail
              refine (H7.out _ HX9.out).mono ?_
              intro e w10 hr10
              obtain ⟨hb10, rfl⟩ := earP_bad (by rw [← HE0.out]; exact HNE.out) hr10
              rw [← HE0.out]
              have HX10 := hid (HX9.out.trans (hb10.mono HX9.out.size))
              have HK10 := hid (blk_keep HK0.out HX10.out)
              obtain ⟨c0, c1, c2, c3⟩ := four_all HK10.out
              clear hb10 hr10
              go_wp2_with fail
              refine (H8.out _ HX10.out).mono ?_
              rintro e w11 ⟨hb11, n, ff, rfl, hff⟩
              have HX11 := hid (HX10.out.trans (hb11.mono HX10.out.size))
              have HB11 := hid (P0.out.trans (HX11.out.mono hz0))
              have hf0 : ff ≠ 0 := fun h => HNE.out (by rw [HE0.out]; exact drv_nil (hff h).1)
              have d1 : (ff == 0) = false := by simp; exact hf0
              clear hb11 hff hf0
              go_wp2
              go_ret
              exact ⟨HB11.out, rfl⟩
          · have HEQ := hid heq
            clear heq
            as_aux_lemma =>
              go_wp2_with fail
              refine (H7.out _ HX9.out).mono ?_
              intro e w10 hr10
              obtain ⟨hb10, (⟨hE, rfl⟩ | ⟨F9, cf, f9, hE, hf9, hi9, hI9, rfl⟩)⟩ := earP_ok HEQ.out hr10
              · have HX10 := hid (HX9.out.trans (hb10.mono HX9.out.size))
                have HK10 := hid (blk_keep HK0.out HX10.out)
                obtain ⟨c0, c1, c2, c3⟩ := four_all HK10.out
                have HE := hid hE
                clear hb10 hr10 hE
                go_wp2_with fail
                refine (H8.out _ HX10.out).mono ?_
                rintro e w11 ⟨hb11, n, ff, rfl, hff⟩
                have HX11 := hid (HX10.out.trans (hb11.mono HX10.out.size))
                have HB11 := hid (P0.out.trans (HX11.out.mono hz0))
                have HK11 := hid (blk_keep HK0.out HX11.out)
                obtain ⟨c0, c1, c2, c3⟩ := four_all HK11.out
                have HFf := hid hff
                clear hb11 hff
                by_cases hf0 : ff = 0
                · have hqn : q.length ≠ n1 := fun h => by
                    obtain ⟨k1, k2, _⟩ := HFf.out hf0
                    obtain ⟨_, _, k3, k4, _⟩ := drvE_ok k1
                    obtain ⟨m9, e9, _⟩ := HE.out.low q (tour_of k4 k3 (by rw [h, HN1.out])) k2
                    cases e9
                  have d1 : ((q.length : Int) == (n1 : Int)) = false := by simp; omega
                  subst hf0
                  clear hqn
                  go_wp2
                  go_ret
                  exact ⟨HB11.out, rfl⟩
                · have d1 : (ff == 0) = false := by simp; exact hf0
                  clear hf0
                  go_wp2
                  go_ret
                  exact ⟨HB11.out, rfl⟩
              · have HX10 := hid (HX9.out.trans (hb10.mono HX9.out.size))
                have HK10 := hid (blk_keep HK0.out HX10.out)
                obtain ⟨c0, c1, c2, c3⟩ := four_all HK10.out
                have HE := hid hE
                have hge : b + m ≤ backD t l f9 b := by
                  have k1 := back_ge (t := t) (l := l) (b := b) hf9
                  have k2 := HM.out.2 f9 hf9
                  have k3 := (stK_bd (drvE_ok HEQ.out).2.1 (t.length - 1) (by omega)).1
                  omega
                have hbd := (drvE_ok HEQ.out).2.2.2.2
                have hmb : 0 ≤ m ∧ m ≤ 20000 := by
                  obtain ⟨f8, hf8, e8⟩ := HM.out.1
                  have k1 := tourL_bd HWy.out hf8.stops
                  have k2 := hf8.len
                  omega
                obtain ⟨bk, hbk⟩ : ∃ bk, backD t l f9 b = bk := ⟨_, rfl⟩
                rw [hbk] at HE hge ⊢
                obtain ⟨n9, hn9⟩ : ∃ n9, f9.length = n9 := ⟨_, rfl⟩
                rw [hn9]
                have d9 : decide (b + m ≤ bk) = true := decide_eq_true hge
                clear hb10 hr10 hE hf9 hi9 hI9 hbk hn9
                go_wp2_with fail
                refine (H8.out _ HX10.out).mono ?_
                rintro e w11 ⟨hb11, n, ff, rfl, hff⟩
                have HX11 := hid (HX10.out.trans (hb11.mono HX10.out.size))
                have HB11 := hid (P0.out.trans (HX11.out.mono hz0))
                have HK11 := hid (blk_keep HK0.out HX11.out)
                obtain ⟨c0, c1, c2, c3⟩ := four_all HK11.out
                have HFf := hid hff
                clear hb11 hff
                by_cases hf0 : ff = 0
                · subst hf0
                  by_cases hqn : q.length = n1
                  · have hnb : bk ≤ n := by
                      obtain ⟨k1, k2, k5⟩ := HFf.out rfl
                      obtain ⟨_, _, k3, k4, _⟩ := drvE_ok k1
                      obtain ⟨m9, e9, k6⟩ := HE.out.low q (tour_of k4 k3 (by rw [hqn, HN1.out])) k2
                      cases e9
                      omega
                    have d1 : ((q.length : Int) == (n1 : Int)) = true := by simp; omega
                    have d2 : decide (n < bk) = false := decide_eq_false (by omega)
                    clear hqn
                    go_wp2
                    go_ret
                    exact ⟨HB11.out, rfl⟩
                  · have d1 : ((q.length : Int) == (n1 : Int)) = false := by simp; omega
                    clear hqn
                    go_wp2
                    go_ret
                    exact ⟨HB11.out, rfl⟩
                · have d1 : (ff == 0) = false := by simp; exact hf0
                  clear hf0
                  go_wp2
                  go_ret
                  exact ⟨HB11.out, rfl⟩
    · have HV := hid (fun (W : World) (hb : Below w0.heap.size w0 W) => vValidate_any a t cap W (HT.out.below hb))
      have HN := hid hv
      obtain ⟨e0, he0⟩ : ∃ e0, vaV t = e0 := ⟨_, rfl⟩
      rw [he0] at H1 HV hv HN
      have hne : (e0 == 0) = false := by simp; exact hv
      have hnn : (e0 != 0) = true := by simp; exact hv
      clear he0 hv HT HSt HIp HIo HIq hcap
      as_aux_lemma =>
        go_enter Try.func16, Try.ntmps16
        go_wp2_with fail
        clear hw0
        obtain ⟨x0, x1, x2, xb⟩ := HA.out
        have T1 := exT_tab _ _ _ _ x0 x1 x2
        clear x0 x1 x2
        generalize (((w0.alloc (.cells #[.int .i64 0, .int .i64 4] 3)).alloc (.cells #[.int .i64 4, .int .i64 0] 3)).alloc (.cells #[.slice (some ⟨w0.heap.size, 0, none⟩) 2 2, .slice (some ⟨w0.heap.size + 1, 0, none⟩) 2 2] 23)) = w1 at *
        refine (HS.out w1 T1).mono ?_
        intro e w2 hr
        obtain ⟨hb2, v, rfl, hv⟩ := numE_good rfl hr
        obtain rfl := hv.eq exT_short
        have HX2 := hid (xb.trans (hb2.mono xb.size))
        have HB2 := hid (P0.out.trans (HX2.out.mono hz0))
        have HK2 := hid (blk_keep HK0.out HX2.out)
        obtain ⟨c0, c1, c2, c3⟩ := four_all HK2.out
        clear hb2 hv T1 xb hr HA
        go_wp2_with fail
        refine (HLa.out _ HX2.out).mono ?_
        rintro e w3 ⟨rfl, rfl⟩
        go_wp2_with fail
        refine (H1.out _ HX2.out).mono ?_
        intro e w4 hr4
        obtain ⟨hb4, rfl⟩ := numE_bad HN.out hr4
        have HX4 := hid (HX2.out.trans (hb4.mono HX2.out.size))
        clear hb4 hr4
        go_wp2_with fail
        refine (HV.out _ HX4.out).mono ?_
        rintro e w5 ⟨hb5, rfl⟩
        have HX5 := hid (HX4.out.trans (hb5.mono HX4.out.size))
        have HB5 := hid (P0.out.trans (HX5.out.mono hz0))
        clear hb5
        go_wp2
        go_ret
        exact ⟨HB5.out, rfl⟩
end Go.Proofs.Ytbffdpcogfmomaa
