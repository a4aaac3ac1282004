/- The walk of the law VanBounds. -/
import Derived.Test.YtjfojbhimbpcfaaVaLg
import Derived.Test.YtjfojbhimbpcfaaVaBRW
set_option linter.unusedVariables false
namespace Go.Proofs.Ytjfojbhimbpcfaa
open Go.RowKit

theorem numE_err {P : Int → Prop} {e : Int} {en : Ending} (he : ¬ e = 0) (h : (e ≠ 0 ∧ en = .returned (.tuple #[.int .i64 0, .int .i64 e])) ∨ (e = 0 ∧ ∃ v, en = .returned (.tuple #[.int .i64 v, .int .i64 0]) ∧ P v)) : en = .returned (.tuple #[.int .i64 0, .int .i64 e]) := by
  rcases h with ⟨_, h⟩ | ⟨h, _⟩
  · exact h
  · exact absurd h he
theorem numE_some {P : Int → Prop} {e : Int} {en : Ending} (h : (e ≠ 0 ∧ en = .returned (.tuple #[.int .i64 0, .int .i64 e])) ∨ (e = 0 ∧ ∃ v, en = .returned (.tuple #[.int .i64 v, .int .i64 0]) ∧ P v)) : ∃ v, en = .returned (.tuple #[.int .i64 v, .int .i64 e]) := by
  rcases h with ⟨_, h⟩ | ⟨h, v, h2, _⟩
  · exact ⟨0, h⟩
  · exact ⟨v, by rw [h]; exact h2⟩
theorem vaV_bd (t : Tbl) : 0 ≤ vaV t ∧ vaV t ≤ 4 := by rcases vaV_cases t with h | h | h <;> omega
theorem ptE_bd (t : Tbl) (p : List Int) : 0 ≤ ptE t p ∧ ptE t p ≤ 4 := by
  unfold ptE
  split
  · split <;> omega
  · exact vaV_bd t
set_option maxRecDepth 100000 in
set_option maxHeartbeats 8000000 in
theorem vanBounds_walk (a A : Option Addr) (t : Tbl) (o : List Int) (cap c : Nat) (w : World) (h0 : t.length ≤ 9223372036854775807) (h : TabRaw w a t) (g0 : o.length ≤ 9223372036854775807) (g : o.length ≤ 140737488355328 → Ints w A o) :
  Calls Try.prog 7 #[.slice a t.length cap, .slice A o.length c] w (BoolR w true) := by
  have HLa := hid (large_any a t cap w h0 h)
  have HLo := hid (long8_any A o.length c w g0)
  cases hlg : largeB t with
  | true =>
    rw [hlg] at HLa
    clear h g hlg
    go_enter Try.func7, Try.ntmps7
    go_wp2_with fail
    refine HLa.out.mono ?_
    rintro e w1 ⟨rfl, rfl⟩
    go_wp2_with fail
    refine (known8_any _).mono ?_
    rintro e w9 ⟨hb, rfl⟩
    go_wp2
    go_ret
    exact ⟨hb, rfl⟩
  | false =>
    rw [hlg] at HLa
    by_cases hlo : 60 < o.length
    · rw [decide_eq_true hlo] at HLo
      clear h g hlg
      go_enter Try.func7, Try.ntmps7
      go_wp2_with fail
      refine HLa.out.mono ?_
      rintro e w1 ⟨rfl, rfl⟩
      go_wp2_with fail
      refine HLo.out.mono ?_
      rintro e w1 ⟨rfl, rfl⟩
      go_wp2_with fail
      refine (known8_any _).mono ?_
      rintro e w9 ⟨hb, rfl⟩
      go_wp2
      go_ret
      exact ⟨hb, rfl⟩
    · rw [decide_eq_false hlo] at HLo
      have hT := h.tab hlg
      have hI := g (by omega)
      have H1 := hid (vBoundP_any a A t o cap c w hT hI)
      have H2 := hid (fun (W : World) (hb : Below w.heap.size w W) => rBoundP_any a A t o cap c W (hT.below hb) (hI.below hb))
      have H3 := hid (fun (W : World) (hb : Below w.heap.size w W) => vShortest_any a t cap W (hT.below hb))
      have HW := hid (fun (e : ptE t o = 0) => (ptE_iff t o).1 e)
      have HVb := hid (vaV_bd t)
      have HPb := hid (ptE_bd t o)
      clear h g hlg hT hI hlo
      by_cases hv : ptE t o = 0
      · obtain ⟨hw1, hw2, hw3⟩ := HW.out hv
        have HWy := hid hw1
        have HPo := hid hw3
        have hva := (ways_iff t).2 hw1
        rw [hv] at H1 H2
        rw [hva] at H3
        clear HW hv hw1 hw3 hva HVb HPb
        go_enter Try.func7, Try.ntmps7
        go_wp2_with fail
        refine HLa.out.mono ?_
        rintro e w1 ⟨rfl, rfl⟩
        go_wp2_with fail
        refine HLo.out.mono ?_
        rintro e w1 ⟨rfl, rfl⟩
        go_wp2_with fail
        refine H1.out.mono ?_
        rintro e w2 ⟨hb2, (⟨he, _⟩ | ⟨_, m, rfl, hM⟩)⟩
        · exact absurd rfl he
        have HM := hid hM
        have HB2 := hid hb2
        have HC2 := hid (H2.out w2 hb2)
        clear hb2 hM
        go_wp2_with fail
        refine HC2.out.mono ?_
        rintro e w3 ⟨hb3, (⟨he, _⟩ | ⟨_, m', rfl, hM'⟩)⟩
        · exact absurd rfl he
        obtain rfl := hM'.eq HM.out
        have HB3 := hid (HB2.out.trans (hb3.mono HB2.out.size))
        have HC3 := hid (H3.out w3 HB3.out)
        clear hb3 hM' HC2
        go_wp2_with fail
        refine HC3.out.mono ?_
        rintro e w4 ⟨hb4, (⟨he, _⟩ | ⟨_, v, rfl, hv4⟩)⟩
        · exact absurd rfl he
        have HB4 := hid (HB3.out.trans (hb4.mono HB3.out.size))
        have hge : m' ≤ v := by
          obtain ⟨f, hf, e1⟩ := hv4.1
          have := HM.out.le HWy.out hw2 HPo.out hf
          omega
        clear hb4 hv4 HC3
        go_wp2_with fail
        refine (known8_any _).mono ?_
        rintro e w9 ⟨hb9, rfl⟩
        have HB9 := hid (HB4.out.trans (hb9.mono HB4.out.size))
        clear hb9
        go_wp2
        go_ret
        exact ⟨HB9.out, rfl⟩
      · have hvb := HVb.out
        have hpb := HPb.out
        clear HW HVb HPb
        generalize ptE t o = e0 at *
        generalize vaV t = e1 at *
        have hne : (e0 == 0) = false := by simp; exact hv
        have hnn : (e0 != 0) = true := by simp; exact hv
        go_enter Try.func7, Try.ntmps7
        go_wp2_with fail
        refine HLa.out.mono ?_
        rintro e w1 ⟨rfl, rfl⟩
        go_wp2_with fail
        refine HLo.out.mono ?_
        rintro e w1 ⟨rfl, rfl⟩
        go_wp2_with fail
        refine H1.out.mono ?_
        rintro e w2 ⟨hb2, hr2⟩
        obtain rfl := numE_err hv hr2
        have HB2 := hid hb2
        have HC2 := hid (H2.out w2 hb2)
        clear hb2 hr2
        go_wp2_with fail
        refine HC2.out.mono ?_
        rintro e w3 ⟨hb3, hr3⟩
        obtain rfl := numE_err hv hr3
        have HB3 := hid (HB2.out.trans (hb3.mono HB2.out.size))
        have HC3 := hid (H3.out w3 HB3.out)
        clear hb3 hr3 HC2
        go_wp2_with fail
        refine HC3.out.mono ?_
        rintro e w4 ⟨hb4, hr4⟩
        obtain ⟨v4, rfl⟩ := numE_some hr4
        have HB4 := hid (HB3.out.trans (hb4.mono HB3.out.size))
        clear hb4 hr4 HC3
        go_wp2_with fail
        refine (known8_any _).mono ?_
        rintro e w9 ⟨hb9, rfl⟩
        have HB9 := hid (HB4.out.trans (hb9.mono HB4.out.size))
        clear hb9
        go_wp2
        go_ret
        exact ⟨HB9.out, rfl⟩
end Go.Proofs.Ytjfojbhimbpcfaa
