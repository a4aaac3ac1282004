/- The document's Direct, walked: chapter 8. -/
import Derived.Test.YtbffdpcogfmomaaVaRdr
set_option linter.unusedVariables false
namespace Go.Proofs.Ytbffdpcogfmomaa
open Go.RowKit

/-- What the document's Direct answers. -/
def RdrR (t : Tbl) (w : World) (en : Ending) (w' : World) : Prop :=
  Below w.heap.size w w' ∧ ((vaV t ≠ 0 ∧ en = .returned (.tuple #[.slice none 0 0, .int .i64 (vaV t)])) ∨ (vaV t = 0 ∧ ∃ B d, en = .returned (.tuple #[.slice B t.length d, .int .i64 0]) ∧ TabAt w' B (rdT t t.length)))
set_option maxRecDepth 100000 in
set_option maxHeartbeats 8000000 in
theorem rDirect_any (a : Option Addr) (t : Tbl) (cap : Nat) (w : World) (h : TabAt w a t) : Calls Try.prog 37 #[.slice a t.length cap] w (RdrR t w) := by
  have HV := hid (rValidate_any a t cap w h)
  by_cases hv : vaV t = 0
  · have hws := (ways_iff t).1 hv
    have hl7 := hws.len
    have hpos := hws.pos
    have HT := hid hws
    have HE := hid hv
    have HTa := hid h
    have HZ := hid (rdT_zero hws)
    have HCp := hid (fun (W : World) (hb : Below w.heap.size w W) => rCopy_sqR a t cap t.length W (h.below hb) ⟨rfl, hl7, hws.rows⟩ hpos)
    have HCr := hid (fun (B : Option Addr) (d r : Nat) (W : World) (hT : TabAt W B (rdT t r)) => rCopy_sqR B (rdT t r) d t.length W hT (rdT_sq hws r) hpos)
    rw [hv] at HV
    clear h hv hws
    go_enter Try.func37, Try.ntmps37
    go_wp2_with fail
    refine HV.out.mono ?_
    rintro e w1 ⟨hb1, rfl⟩
    have HB1 := hid hb1
    clear hb1
    go_wp2_with fail
    refine (HCp.out _ HB1.out).mono ?_
    rintro e w2 ⟨hb2, B0, d0, G0, C0, rfl, hW0⟩
    have HB2 := hid (HB1.out.trans (hb2.mono HB1.out.size))
    have HN0 := hid (show TabAt w2 B0 (rdT t 0) from by
      rw [HZ.out]
      exact hW0.tabR ⟨rfl, hl7, HT.out.rows⟩ (fun i j hi hj => by have := HT.out.bd i j hi hj; omega) (fun i hi => rfl) hpos)
    clear hb2 hW0
    as_aux_lemma =>
    go_wp2_with fail
    go_loopw [5, 6] (fun v i wr => ∃ (r d : Nat) (B : Option Addr), r ≤ t.length ∧ v = .slice B t.length d ∧ i = .int .i64 r ∧ Hid (TabAt wr B (rdT t r)) ∧ Hid (Below w.heap.size w wr)) (fun _ i _ => t.length - (intOf i).toNat)
    case atStart => exact ⟨0, _, _, Nat.zero_le _, rfl, rfl, HN0, HB2⟩
    case round =>
      obtain ⟨r, d, B, hr, rfl, rfl, HN, HB⟩ := hrel
      clear HN0 HB2
      by_cases hltr : r < t.length
      · have q1 : (r : Int) < (t.length : Int) := by omega
        generalize wr = wq at *
        as_aux_lemma =>
        go_wp2_with fail
        refine (HCr.out B d r wq HN.out).mono ?_
        rintro e w3 ⟨hb3, B3, d3, G, C, rfl, hW3⟩
        have HBq := hid hb3
        have HW := hid (show WayT w3 wq.heap.size t.length (.slice B3 t.length d3) G C (rowR t r 0 0 0) t.length from
          ⟨hW3.out, fun i hi => by rw [rowR_start t r i hi]; exact hW3.rows i hi, fun i hi => rowR_len _ _ _ _ _ _, hW3.inj⟩)
        have HNc := hid (fun (W : World) (hb : Below wq.heap.size wq W) => (HN.out.below hb).sqR (rdT_sq HT.out r) hpos)
        have HTc := hid (fun (W : World) (hb : Below wq.heap.size wq W) => (HTa.out.below (HB.out.trans (hb.mono HB.out.size))).sqR ⟨rfl, hl7, HT.out.rows⟩ hpos)
        clear hb3 hW3
        as_aux_lemma =>
        go_wp2_with fail
        go_loopw [8] (fun i wr => ∃ (m : Nat), m ≤ t.length ∧ i = .int .i64 m ∧ Hid (WayT wr wq.heap.size t.length (.slice B3 t.length d3) G C (rowR t r m 0 0) t.length) ∧ Hid (Below wq.heap.size wq wr)) (fun i _ => t.length - (intOf i).toNat)
        case atStart => exact ⟨0, Nat.zero_le _, rfl, HW, HBq⟩
        case round =>
          obtain ⟨m, hm, rfl, HWm, HBm⟩ := hrel
          clear HW HBq
          by_cases hltm : m < t.length
          · have q2 : (m : Int) < (t.length : Int) := by omega
            as_aux_lemma =>
            go_wp2_with fail
            go_loopw [9] (fun i wr => ∃ (k : Nat), k ≤ t.length ∧ i = .int .i64 k ∧ Hid (WayT wr wq.heap.size t.length (.slice B3 t.length d3) G C (rowR t r m k 0) t.length) ∧ Hid (Below wq.heap.size wq wr)) (fun i _ => t.length - (intOf i).toNat)
            case atStart => exact ⟨0, Nat.zero_le _, rfl, HWm, HBm⟩
            case round =>
              obtain ⟨k, hk, rfl, HWk, HBk⟩ := hrel
              clear HWm HBm
              by_cases hltk : k < t.length
              · have q3 : (k : Int) < (t.length : Int) := by omega
                as_aux_lemma =>
                go_wp2_with fail
                go_loopw [10] (fun i wr => ∃ (o : Nat), o ≤ t.length ∧ i = .int .i64 o ∧ Hid (WayT wr wq.heap.size t.length (.slice B3 t.length d3) G C (rowR t r m k o) t.length) ∧ Hid (Below wq.heap.size wq wr)) (fun i _ => t.length - (intOf i).toNat)
                case atStart => exact ⟨0, Nat.zero_le _, rfl, HWk, HBk⟩
                case round =>
                  obtain ⟨o, ho, rfl, HWo, HBo⟩ := hrel
                  clear HWk HBk
                  by_cases hlto : o < t.length
                  · obtain ⟨ob, rfl, hob⟩ := HWo.out.outer hpos
                    have g1 := hob m hltm
                    obtain ⟨g2, g3⟩ := HWo.out.cell m k hltm hltk
                    rw [rowR_at t r m k o hltk] at g2
                    obtain ⟨nb, no, rfl, hnc⟩ := HNc.out wr HBo.out
                    obtain ⟨nb2, no2, nc2, n1, _, n2⟩ := hnc m hltm
                    have n3 := n2 o hlto
                    rw [rdT_at t r m o hltm hlto] at n3
                    obtain ⟨tb, to, rfl, htc⟩ := HTc.out wr HBo.out
                    obtain ⟨tb2, to2, tc2, t1, _, t2⟩ := htc o hlto
                    have t3 := t2 k hltk
                    have y0 := rdTo_bd HT.out r m k o hltm hltk (by omega)
                    have y1 := rdM_bd HT.out r m o hltm hlto
                    have y2 := HT.out.bd o k hlto hltk
                    have hGm := (HWo.out.lt hpos m hltm).1
                    have T1 := (HWo.out.set hpos m k hltm (min (rdTo t (rdM t r) m k o) (rdM t r m o + tA t o k)))
                    rw [rowR_set t r m k o hltk] at T1
                    have HT1 := hid (T1.below (Below.refl _ _).drew)
                    have HB3 := hid ((HBo.out.setCell (p := ⟨G m, k, none⟩) hGm (.int .i64 (min (rdTo t (rdM t r) m k o) (rdM t r m o + tA t o k)))).drew)
                    clear T1 hob hnc n2 htc t2
                    obtain ⟨e1, he1⟩ : ∃ e1, rdTo t (rdM t r) m k o = e1 := ⟨_, rfl⟩
                    obtain ⟨e2, he2⟩ : ∃ e2, rdM t r m o = e2 := ⟨_, rfl⟩
                    obtain ⟨e3, he3⟩ : ∃ e3, tA t o k = e3 := ⟨_, rfl⟩
                    rw [he1] at g2 y0 HT1 HB3
                    rw [he2] at n3 y1 HT1 HB3
                    rw [he3] at t3 y2 HT1 HB3
                    clear he1 he2 he3
                    have q4 : (o : Int) < (t.length : Int) := by omega
                    have s1 : IntKind.i64.wrap (e2 + e3) = e2 + e3 := IntWalk.i64_in _ (by omega)
                    as_aux_lemma =>
                      go_wp2_with fail
                      go_region
                      go_wp2
                      go_roundw
                      case rel => exact ⟨o + 1, by omega, by go_num, HT1, HB3⟩
                      case measure => simp [intOf]; omega
                  · obtain rfl : o = t.length := by omega
                    have HX := hid (show WayT wr wq.heap.size t.length (.slice B3 t.length d3) G C (rowR t r m (k + 1) 0) t.length by
                      rw [show rowR t r m (k + 1) 0 = rowR t r m k t.length from (funext fun a => (rowR_o t r m k a).symm)]; exact HWo.out)
                    as_aux_lemma =>
                      go_wp2
                      go_roundw
                      case rel => exact ⟨k + 1, by omega, by go_num, HX, HBo⟩
                      case measure => simp [intOf]; omega
              · obtain rfl : k = t.length := by omega
                have HX := hid (show WayT wr wq.heap.size t.length (.slice B3 t.length d3) G C (rowR t r (m + 1) 0 0) t.length by
                  rw [show rowR t r (m + 1) 0 0 = rowR t r m t.length 0 from (funext fun a => (rowR_k t r m a).symm)]; exact HWk.out)
                as_aux_lemma =>
                  go_wp2
                  go_roundw
                  case rel => exact ⟨m + 1, by omega, by go_num, HX, HBk⟩
                  case measure => simp [intOf]; omega
          · obtain rfl : m = t.length := by omega
            have HX := hid (HWm.out.tabR (rdT_sq HT.out (r + 1)) (fun i j hi hj => by rw [rdT_at t (r + 1) i j hi hj]; have := rdM_bd HT.out (r + 1) i j hi hj; omega) (fun i hi => rowR_end t r i hi) hpos)
            have HB4 := hid (HB.out.trans (HBm.out.mono HB.out.size))
            as_aux_lemma =>
              go_wp2
              go_roundw
              case rel => exact ⟨r + 1, _, _, by omega, rfl, by go_num, HX, HB4⟩
              case measure => simp [intOf]; omega
      · obtain rfl : r = t.length := by omega
        as_aux_lemma =>
          go_wp2
          go_ret2
          exact ⟨HB.out, .inr ⟨HE.out, B, d, rfl, HN.out⟩⟩
  · have HE := hid hv
    obtain ⟨e0, he0⟩ : ∃ e0, vaV t = e0 := ⟨_, rfl⟩
    have H0 := hid he0
    rw [he0] at HV hv
    have hne : (e0 == 0) = false := by simp; exact hv
    have hnn : (e0 != 0) = true := by simp; exact hv
    clear h he0
    go_enter Try.func37, Try.ntmps37
    go_wp2_with fail
    refine HV.out.mono ?_
    rintro e w1 ⟨hb1, rfl⟩
    have HB1 := hid hb1
    clear hb1
    go_wp2
    go_ret2
    exact ⟨HB1.out, .inl ⟨HE.out, by rw [H0.out]; rfl⟩⟩
end Go.Proofs.Ytbffdpcogfmomaa
