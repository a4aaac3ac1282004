/- The walk of the law VanTrees. -/
import Derived.Test.YtjfojbhimbpcfaaVaLg
import Derived.Test.YtjfojbhimbpcfaaVaGrW
set_option linter.unusedVariables false
namespace Go.Proofs.Ytjfojbhimbpcfaa
open Go.RowKit

set_option maxRecDepth 100000 in
set_option maxHeartbeats 4000000 in
theorem rTreeP_any (a : Option Addr) (t : Tbl) (cap : Nat) (w : World) (h : TabAt w a t) : Calls Try.prog 31 #[.slice a t.length cap] w (NumE w (fun m => Mst t ((0 : Int) :: stopsL t.length) 0 m) (vaV t)) := by
  have HV := hid (rValidate_any a t cap w h)
  by_cases hv : vaV t = 0
  · have ht := (ways_iff t).1 hv
    have hpos := ht.pos
    rw [hv] at HV
    have HTr := hid (fun (w' : World) (hb : Below w.heap.size w w') => rGrown_any a t cap t.length 0 w' (h.below hb) ht.sq (by omega))
    have HE := hid hv
    clear h hv ht
    go_enter Try.func31, Try.ntmps31
    go_wp2_with fail
    refine HV.out.mono ?_
    rintro e w1 ⟨hb1, rfl⟩
    have HB1 := hid hb1
    have HC := hid (HTr.out w1 hb1)
    clear hb1
    go_wp2_with fail
    refine HC.out.mono ?_
    rintro e w2 ⟨hb2, m, rfl, hM, _⟩
    rw [plL_zero] at hM
    have HM := hid hM
    have HB2 := hid (HB1.out.trans (hb2.mono HB1.out.size))
    clear hb2 hM HC
    go_wp2
    go_ret2
    exact ⟨HB2.out, .inr ⟨HE.out, m, rfl, HM.out⟩⟩
  · have HE := hid hv
    generalize vaV t = e0 at *
    have hne : (e0 == 0) = false := by simp; exact hv
    clear h
    go_enter Try.func31, Try.ntmps31
    go_wp2_with fail
    refine HV.out.mono ?_
    rintro e w1 ⟨hb1, rfl⟩
    have HB1 := hid hb1
    clear hb1
    go_wp2
    go_ret2
    exact ⟨HB1.out, .inl ⟨HE.out, rfl⟩⟩
theorem numE_err {P : Int → Prop} {e : Int} {en : Ending} (he : ¬ e = 0) (h : (e ≠ 0 ∧ en = .returned (.tuple #[.int .i64 0, .int .i64 e])) ∨ (e = 0 ∧ ∃ v, en = .returned (.tuple #[.int .i64 v, .int .i64 0]) ∧ P v)) : en = .returned (.tuple #[.int .i64 0, .int .i64 e]) := by
  rcases h with ⟨_, h⟩ | ⟨h, _⟩
  · exact h
  · exact absurd h he
set_option maxRecDepth 100000 in
set_option maxHeartbeats 8000000 in
theorem vanTrees_walk (a : Option Addr) (t : Tbl) (cap : Nat) (w : World) (h0 : t.length ≤ 9223372036854775807) (h : TabRaw w a t) :
  Calls Try.prog 6 #[.slice a t.length cap] w (BoolR w true) := by
  have HLa := hid (large_any a t cap w h0 h)
  cases hlg : largeB t with
  | true =>
    rw [hlg] at HLa
    clear h hlg
    go_enter Try.func6, Try.ntmps6
    go_wp2_with fail
    refine HLa.out.mono ?_
    rintro e w1 ⟨rfl, rfl⟩
    go_wp2_with fail
    refine (known8_any _).mono ?_
    rintro e w9 ⟨hb, rfl⟩
    go_wp2
    go_ret
    exact ⟨hb, rfl⟩
  | false =>
    rw [hlg] at HLa
    have hT := h.tab hlg
    have H1 := hid (vTreeP_any a t cap w hT)
    have H2 := hid (fun (W : World) (hb : Below w.heap.size w W) => rTreeP_any a t cap W (hT.below hb))
    have H3 := hid (fun (W : World) (hb : Below w.heap.size w W) => vShortest_any a t cap W (hT.below hb))
    have HW := hid (fun (e : vaV t = 0) => (ways_iff t).1 e)
    clear h hlg hT
    by_cases hv : vaV t = 0
    · have HWy := hid (HW.out hv)
      rw [hv] at H1 H2 H3
      clear HW hv
      go_enter Try.func6, Try.ntmps6
      go_wp2_with fail
      refine HLa.out.mono ?_
      rintro e w1 ⟨rfl, rfl⟩
      go_wp2_with fail
      refine H1.out.mono ?_
      rintro e w2 ⟨hb2, (⟨he, _⟩ | ⟨_, m, rfl, hM⟩)⟩
      · exact absurd rfl he
      have HM := hid hM
      have HB2 := hid hb2
      have HC2 := hid (H2.out w2 hb2)
      clear hb2 hM
      go_wp2_with fail
      refine HC2.out.mono ?_
      rintro e w3 ⟨hb3, (⟨he, _⟩ | ⟨_, m', rfl, hM'⟩)⟩
      · exact absurd rfl he
      obtain rfl := hM'.eq HM.out
      have HB3 := hid (HB2.out.trans (hb3.mono HB2.out.size))
      have HC3 := hid (H3.out w3 HB3.out)
      clear hb3 hM' HC2
      go_wp2_with fail
      refine HC3.out.mono ?_
      rintro e w4 ⟨hb4, (⟨he, _⟩ | ⟨_, v, rfl, hv4⟩)⟩
      · exact absurd rfl he
      have HB4 := hid (HB3.out.trans (hb4.mono HB3.out.size))
      have hge : m' ≤ v := by
        obtain ⟨f, hf, e1⟩ := hv4.1
        have := HM.out.tour HWy.out hf
        omega
      clear hb4 hv4 HC3
      go_wp2_with fail
      refine (known8_any _).mono ?_
      rintro e w9 ⟨hb9, rfl⟩
      have HB9 := hid (HB4.out.trans (hb9.mono HB4.out.size))
      clear hb9
      go_wp2
      go_ret
      exact ⟨HB9.out, rfl⟩
    · have hc := vaV_cases t
      clear HW
      generalize vaV t = e0 at *
      have hne : (e0 == 0) = false := by simp; exact hv
      have hnn : (e0 != 0) = true := by simp; exact hv
      go_enter Try.func6, Try.ntmps6
      go_wp2_with fail
      refine HLa.out.mono ?_
      rintro e w1 ⟨rfl, rfl⟩
      go_wp2_with fail
      refine H1.out.mono ?_
      rintro e w2 ⟨hb2, hr2⟩
      obtain rfl := numE_err hv hr2
      have HB2 := hid hb2
      have HC2 := hid (H2.out w2 hb2)
      clear hb2 hr2
      go_wp2_with fail
      refine HC2.out.mono ?_
      rintro e w3 ⟨hb3, hr3⟩
      obtain rfl := numE_err hv hr3
      have HB3 := hid (HB2.out.trans (hb3.mono HB2.out.size))
      have HC3 := hid (H3.out w3 HB3.out)
      clear hb3 hr3 HC2
      go_wp2_with fail
      refine HC3.out.mono ?_
      rintro e w4 ⟨hb4, hr4⟩
      obtain rfl := numE_err hv hr4
      have HB4 := hid (HB3.out.trans (hb4.mono HB3.out.size))
      clear hb4 hr4 HC3
      go_wp2_with fail
      refine (known8_any _).mono ?_
      rintro e w9 ⟨hb9, rfl⟩
      have HB9 := hid (HB4.out.trans (hb9.mono HB4.out.size))
      clear hb9
      go_wp2
      go_ret
      exact ⟨HB9.out, rfl⟩
end Go.Proofs.Ytjfojbhimbpcfaa
