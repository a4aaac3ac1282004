/- Improve: package van. -/
import Derived.Test.YtbffdpcogfmomaaVaShort
set_option linter.unusedVariables false
namespace Go.Proofs.Ytbffdpcogfmomaa
open Go.RowKit

def zeros8 (t : Tbl) : List Int := List.replicate t.length 0
/-- What Improve answers. -/
def ImpQ (t : Tbl) (p : List Int) (w : World) (en : Ending) (w' : World) : Prop :=
  Below w.heap.size w w' ∧ ((ptE t p ≠ 0 ∧ en = .returned (.tuple #[.slice none 0 0, .int .i64 (ptE t p)])) ∨
    (ptE t p = 0 ∧ ∃ A c q B, en = .returned (.tuple #[.slice A t.length c, .int .i64 0]) ∧ Ints w' A q ∧ Pots q t.length ∧ BoundIs t q B ∧ (∀ B0, BoundIs t p B0 → B0 ≤ B) ∧ ∀ B0, BoundIs t (zeros8 t) B0 → B0 ≤ B))
set_option maxRecDepth 100000 in
set_option maxHeartbeats 4000000 in
theorem vImprove_any (a A : Option Addr) (t : Tbl) (p : List Int) (cap c : Nat) (w : World) (h : TabAt w a t) (hi : Ints w A p) : Calls Try.prog 34 #[.slice a t.length cap, .slice A p.length c] w (ImpQ t p w) := by
  have HV := hid (vCheckPots_any a A t p cap c w h hi)
  by_cases hv : ptE t p = 0
  · obtain ⟨ht, h3, hp⟩ := (ptE_iff t p).1 hv
    have hl7 := ht.len
    have hmk := make_ints t.length (by omega)
    have hpl := hp.len
    have HMk := hid (fun (w1 : World) => (show Below w1.heap.size w1 (w1.alloc (.cells (List.replicate t.length (Value.int .i64 0)).toArray 3)) ∧ Ints (w1.alloc (.cells (List.replicate t.length (Value.int .i64 0)).toArray 3)) (some ⟨w1.heap.size, 0, none⟩) (zeros8 t) from by
      have hx := (Below.refl w1.heap.size w1).alloc (Nat.le_refl _) (.cells (List.replicate t.length (Value.int .i64 0)).toArray 3)
      have hz : (w1.alloc (.cells (List.replicate t.length (Value.int .i64 0)).toArray 3)).heap[w1.heap.size]? = some (.cells (cellsV (List.replicate t.length 0)) 3 (0, 0)) := by rw [zerosV]; exact heap_alloc_new _ _
      exact ⟨hx, arrV_ints hz (by simp [zeros8]; omega) (fun x hx => by have := (List.mem_replicate.1 hx).2; omega)⟩))
    have HBo := hid (fun (w' : World) (hb : Below w.heap.size w w') (D : Option Addr) (q : List Int) (d : Nat) (hq : Ints w' D q) (hqp : Pots q t.length) => by
      have := vBoundOf_any a D t q cap d w' (h.below hb) hq ht hqp h3
      rw [hqp.len] at this
      exact this)
    have HRa := hid (fun (w' : World) (hb : Below w.heap.size w w') (D : Option Addr) (q : List Int) (d : Nat) (hq : Ints w' D q) (hqp : Pots q t.length) => vRaise_any a D t q cap d w' (h.below hb) hq ht hqp h3)
    have HZp := hid (zeros_pots t.length)
    have HPp := hid hp
    have HI := hid hi
    have HE := hid hv
    rw [hv] at HV
    rw [hpl] at HV
    have HPl := hid hpl
    clear h hi hv ht hp
    rw [hpl]
    clear hpl
    go_enter Try.func34, Try.ntmps34
    go_wp2_with fail
    refine HV.out.mono ?_
    rintro e w1 ⟨hb1, rfl⟩
    have HB1 := hid hb1
    obtain ⟨hx, hI1⟩ := HMk.out w1
    obtain ⟨w2, hw2⟩ : ∃ w2, w1.alloc (.cells (List.replicate t.length (Value.int .i64 0)).toArray 3) = w2 := ⟨_, rfl⟩
    rw [hw2] at hx hI1
    rw [show (List.replicate t.length (Value.int .i64 0)).toArray = Array.replicate t.length (Value.int .i64 0) by simp] at hw2
    have HB2 := hid (hb1.trans (hx.mono hb1.size))
    have HI2 := hid hI1
    have HC2 := hid (HBo.out w2 HB2.out _ _ t.length hI1 HZp.out)
    clear hb1 hx hI1 HV HMk
    go_wp2_with fail
    clear hw2
    refine HC2.out.mono ?_
    rintro e w3 ⟨hb3, B1, g1, ds1, rfl, hBI1, _, _, _, _⟩
    have HB3 := hid (HB2.out.trans (hb3.mono HB2.out.size))
    have HI3 := hid (HI2.out.below hb3)
    have HBI1 := hid hBI1
    have HC3 := hid (HBo.out w3 HB3.out A p c (HI.out.below HB3.out) HPp.out)
    clear hb3 hBI1 HC2 hmk
    go_wp2_with fail
    refine HC3.out.mono ?_
    rintro e w4 ⟨hb4, B2, g2, ds2, rfl, hBI2, _, _, _, _⟩
    have HB4 := hid (HB3.out.trans (hb4.mono HB3.out.size))
    have HI4 := hid (HI3.out.below hb4)
    have HBI2 := hid hBI2
    clear hb4 hBI2 HC3
    by_cases hlt : B1 < B2
    · have HC4 := hid (HRa.out w4 HB4.out A p c (HI.out.below HB4.out) HPp.out)
      as_aux_lemma =>
        go_wp2_with fail
        refine HC4.out.mono ?_
        rintro e w5 ⟨hb5, A5, c5, q, B, rfl, hIq, hPq, hBq, hge⟩
        have HB5 := hid (HB4.out.trans (hb5.mono HB4.out.size))
        have HIq := hid hIq
        have HPq := hid hPq
        have HBq := hid hBq
        have HG := hid hge
        clear hb5 hIq hPq hBq hge
        go_wp2
        go_ret2
        refine ⟨HB5.out, .inr ⟨HE.out, A5, c5, q, B, rfl, HIq.out, HPq.out, HBq.out, HG.out, fun B0 h0 => ?_⟩⟩
        have e1 := h0.eq HBI1.out
        have e2 := HG.out B2 HBI2.out
        omega
    · have HC4 := hid (HRa.out w4 HB4.out _ _ t.length HI4.out HZp.out)
      as_aux_lemma =>
        go_wp2_with fail
        refine HC4.out.mono ?_
        rintro e w5 ⟨hb5, A5, c5, q, B, rfl, hIq, hPq, hBq, hge⟩
        have HB5 := hid (HB4.out.trans (hb5.mono HB4.out.size))
        have HIq := hid hIq
        have HPq := hid hPq
        have HBq := hid hBq
        have HG := hid hge
        clear hb5 hIq hPq hBq hge
        go_wp2
        go_ret2
        refine ⟨HB5.out, .inr ⟨HE.out, A5, c5, q, B, rfl, HIq.out, HPq.out, HBq.out, fun B0 h0 => ?_, HG.out⟩⟩
        have e1 := h0.eq HBI2.out
        have e2 := HG.out B1 HBI1.out
        omega
  · have HE := hid hv
    obtain ⟨e0, he0⟩ : ∃ e0, ptE t p = e0 := ⟨_, rfl⟩
    have HQ := hid he0
    rw [he0] at HV hv
    have hne : (e0 == 0) = false := by simp; exact hv
    have hnn : (e0 != 0) = true := by simp; exact hv
    clear h hi he0
    go_enter Try.func34, Try.ntmps34
    go_wp2_with fail
    refine HV.out.mono ?_
    rintro e w1 ⟨hb1, rfl⟩
    have HB1 := hid hb1
    clear hb1
    go_wp2
    go_ret2
    exact ⟨HB1.out, .inl ⟨HE.out, by rw [HQ.out]; rfl⟩⟩
end Go.Proofs.Ytbffdpcogfmomaa
