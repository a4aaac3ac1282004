/- The walk of the law KitchenLeast. -/
import Derived.Test.YthogliblgcccnaaKiLe
import Derived.Test.YthogliblgcccnaaKiLg
set_option linter.unusedVariables false
namespace Go.Proofs.Ythogliblgcccnaa
open Go.RowKit

theorem time_ord {l : List Bt} {o : List Int} (h0 : valE l = 0) (ho : IsOrd o l.length) : timeV l o = (timeO l o, 0) := by
  refine if_pos ?_
  unfold chkE
  rw [if_pos h0]
  have := (ordB_iff o l.length).2 ho
  simp [this]
set_option maxRecDepth 100000 in
set_option maxHeartbeats 4000000 in
theorem kitchenLeast_walk (a : Option Addr) (l : List Bt) (cap : Nat) (w : World) (h0 : l.length ≤ 9223372036854775807) (h : l.length ≤ 140737488355328 → Bts w a l) :
  Calls Try.prog 5 #[.slice a l.length cap] w (BoolR w true) := by
  have HL := hid (long7_any a none l.length 0 cap 0 w h0 (by omega))
  have HKw := hid (fun (W : World) (hb : Below w.heap.size w W) => (known7_any W).mono (fun en W2 (hp : BoolR W true en W2) => (show BoolR w true en W2 from ⟨hb.trans (hp.1.mono hb.size), hp.2⟩)))
  cases hlg : longB l.length 0 with
  | true =>
    rw [hlg] at HL
    clear h hlg
    go_enter Try.func5, Try.ntmps5
    go_wp2_with fail
    refine HL.out.mono ?_
    rintro e w1 ⟨rfl, rfl⟩
    go_wp2_with fail
    refine (HKw.out _ (Below.refl _ _)).mono ?_
    rintro e w9 ⟨hb, rfl⟩
    go_wp2
    go_ret
    exact ⟨hb, rfl⟩
  | false =>
    rw [hlg] at HL
    obtain ⟨hn, -⟩ := longB_no hlg
    have hB := h (by omega)
    have HB := hid hB
    clear h hlg hB
    by_cases hv : valE l = 0
    · have H1 := hid (fun (W : World) (hb : Below w.heap.size w W) => kLeast_ok a l cap W (HB.out.below hb) hv)
      have H2 := hid (fun (W : World) (hb : Below w.heap.size w W) => krLeast_ok a l cap W (HB.out.below hb) hv)
      have H3 := hid (fun (W : World) (hb : Below w.heap.size w W) => kBestP_ok a l cap W (HB.out.below hb) hv)
      have H4 := hid (fun (A : Option Addr) (o : List Int) (c : Nat) (W : World) (hb : Below w.heap.size w W) (hI : Ints W A o) => krTime_any a A l o cap c W (HB.out.below hb) hI)
      have HV := hid hv
      clear hv
      go_enter Try.func5, Try.ntmps5
      go_wp2_with fail
      refine HL.out.mono ?_
      rintro e w1 ⟨rfl, rfl⟩
      go_wp2_with fail
      refine (H1.out _ (Below.refl _ _)).mono ?_
      rintro e w2 ⟨hb2, m, hm, rfl⟩
      have HB2 := hid hb2
      have HM := hid hm
      clear hb2 hm
      go_wp2_with fail
      refine (H2.out _ HB2.out).mono ?_
      rintro e w3 ⟨hb3, m', hm', rfl⟩
      obtain rfl := hm'.unique HM.out
      have HB3 := hid (HB2.out.trans (hb3.mono HB2.out.size))
      clear hb3 hm'
      go_wp2_with fail
      refine (H3.out _ HB3.out).mono ?_
      rintro e w4 ⟨hb4, F, c, f, rfl, hI, hf, hs⟩
      have HB4 := hid (HB3.out.trans (hb4.mono HB3.out.size))
      have HC4 := hid (H4.out F f c w4 HB4.out hI)
      rw [time_ord HV.out hf, hs.unique HM.out] at HC4
      clear hb4 hI hf hs
      go_wp2_with fail
      refine HC4.out.mono ?_
      rintro e w5 ⟨rfl, rfl⟩
      clear HC4
      go_wp2_with fail
      refine (HKw.out _ HB4.out).mono ?_
      rintro e w9 ⟨hb, rfl⟩
      go_wp2
      go_ret
      exact ⟨hb, rfl⟩
    · have H1 := hid (fun (W : World) (hb : Below w.heap.size w W) => kLeast_bad a l cap W (HB.out.below hb) hv)
      have H2 := hid (fun (W : World) (hb : Below w.heap.size w W) => krLeast_bad a l cap W (HB.out.below hb) hv)
      have H3 := hid (fun (W : World) (hb : Below w.heap.size w W) => kBestP_bad a l cap W (HB.out.below hb) hv)
      have hne : (valE l == 0) = false := by simp [hv]
      have hnn : (valE l != 0) = true := by simp [hv]
      clear hv
      generalize valE l = e0 at *
      go_enter Try.func5, Try.ntmps5
      go_wp2_with fail
      refine HL.out.mono ?_
      rintro e w1 ⟨rfl, rfl⟩
      go_wp2_with fail
      refine (H1.out _ (Below.refl _ _)).mono ?_
      rintro e w2 ⟨hb2, rfl⟩
      have HB2 := hid hb2
      clear hb2
      go_wp2_with fail
      refine (H2.out _ HB2.out).mono ?_
      rintro e w3 ⟨hb3, rfl⟩
      have HB3 := hid (HB2.out.trans (hb3.mono HB2.out.size))
      clear hb3
      go_wp2_with fail
      refine (H3.out _ HB3.out).mono ?_
      rintro e w4 ⟨hb4, rfl⟩
      have HB4 := hid (HB3.out.trans (hb4.mono HB3.out.size))
      clear hb4
      go_wp2_with fail
      refine (HKw.out _ HB4.out).mono ?_
      rintro e w9 ⟨hb, rfl⟩
      go_wp2
      go_ret
      exact ⟨hb, rfl⟩
end Go.Proofs.Ythogliblgcccnaa
