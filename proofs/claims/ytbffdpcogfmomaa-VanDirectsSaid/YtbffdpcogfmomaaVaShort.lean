/- The smallest length of a tour; what the laws of chapter 8 know: package van. -/
import Derived.Test.YtbffdpcogfmomaaVaTour3
import Derived.Test.YtbffdpcogfmomaaVaEx
set_option linter.unusedVariables false
namespace Go.Proofs.Ytbffdpcogfmomaa
open Go.RowKit

/-- The smallest length of a tour of all stops. -/
def IsShort (t : Tbl) (m : Int) : Prop := (∃ f, IsTour f t.length ∧ tourL t f = m) ∧ ∀ q, IsTour q t.length → m ≤ tourL t q
theorem IsShort.eq {t : Tbl} {a b : Int} (h : IsShort t a) (k : IsShort t b) : a = b := by
  obtain ⟨f, h1, h2⟩ := h.1
  obtain ⟨g, k1, k2⟩ := k.1
  have := h.2 g k1
  have := k.2 f h1
  omega
set_option maxRecDepth 100000 in
set_option maxHeartbeats 4000000 in
theorem vShortest_any (a : Option Addr) (t : Tbl) (cap : Nat) (w : World) (h : TabAt w a t) : Calls Try.prog 24 #[.slice a t.length cap] w (NumE w (IsShort t) (vaV t)) := by
  have HV := hid (vTour_any a t cap w h)
  have HH := hid h
  have htl := h.len
  clear h
  go_enter Try.func24, Try.ntmps24
  go_wp2_with fail
  refine HV.out.mono ?_
  rintro e w1 ⟨hb1, (⟨he, rfl⟩ | ⟨he, F, c, f, rfl, hI, hf, hm⟩)⟩
  · have HB := hid hb1
    have HE := hid he
    clear hb1
    have hc := vaV_cases t
    generalize vaV t = e0 at *
    have hne : (e0 == 0) = false := by simp; exact he
    go_wp2
    go_ret2
    exact ⟨HB.out, .inl ⟨HE.out, rfl⟩⟩
  · have ht := (ways_iff t).1 he
    have hl7 := ht.len
    have hfl := hf.len
    have HL := hid (vLength_any a F t f cap c w1 (HH.out.below hb1) hI ht hf.stops (by omega))
    have HB := hid hb1
    have HE := hid he
    have HF := hid hf
    have HM := hid hm
    clear hb1 hI he ht hf hm hfl
    go_wp2_with fail
    refine HL.out.mono ?_
    rintro e w2 ⟨rfl, rfl⟩
    go_wp2
    go_ret2
    exact ⟨HB.out, .inr ⟨HE.out, _, rfl, ⟨f, HF.out, rfl⟩, HM.out⟩⟩
theorem ex_va : vaV exW = 0 := by decide +kernel
theorem ex_tours (f : List Int) (h : IsTour f exW.length) : f = [1, 2] ∨ f = [2, 1] := by
  have hl := h.len
  have hm := fun x (hx : x ∈ f) => h.mem hx
  have hn := h.nodup
  match f, hl with
  | [x, y], _ =>
    have h1 := hm x (by simp)
    have h2 := hm y (by simp)
    simp [exW] at h1 h2
    have h3 : x ≠ y := by simp at hn; exact hn
    have : x = 1 ∨ x = 2 := by omega
    have : y = 1 ∨ y = 2 := by omega
    rcases ‹x = 1 ∨ x = 2› with rfl | rfl <;> rcases ‹y = 1 ∨ y = 2› with rfl | rfl <;> simp at h3 ⊢
theorem ex_len : tourL exW [1, 2] = 12 ∧ tourL exW [2, 1] = 12 := by decide +kernel
theorem ex_short : IsShort exW 12 := by
  refine ⟨⟨[1, 2], List.Perm.refl _, ex_len.1⟩, fun q hq => ?_⟩
  rcases ex_tours q hq with rfl | rfl
  · rw [ex_len.1]; decide
  · rw [ex_len.2]; decide
end Go.Proofs.Ytbffdpcogfmomaa
