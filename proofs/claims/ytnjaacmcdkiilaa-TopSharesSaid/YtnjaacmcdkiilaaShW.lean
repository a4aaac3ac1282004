/- isDivisorForm, Check and Divisor of package share. -/
import Derived.Test.YtnjaacmcdkiilaaShP
set_option linter.unusedVariables false
namespace Go.Proofs.Ytnjaacmcdkiilaa
open Go.RowKit

theorem inW_nat {p : Int} (h : inW p 1 1000000000 = true) : ∃ P : Nat, p = (P : Int) ∧ 1 ≤ P ∧ P ≤ 1000000000 := by
  have : 1 ≤ p ∧ p ≤ 1000000000 := by simpa [inW] using h
  exact ⟨p.toNat, by omega, by omega, by omega⟩
set_option maxRecDepth 100000 in
set_option maxHeartbeats 2000000 in
theorem form_any (p q : Int) (w : World) : Calls Try.prog 57 #[.agg #[.int .i64 p, .int .i64 q]] w (BoolR w (formB p q)) := by
  have hB0 := (Below.refl w.heap.size w).alloc (Nat.le_refl _) (.cells #[.int .i64 p, .int .i64 q] 39)
  have HP := hid (fun w => isWithin_any p 1 1000000000 w)
  have HQ := hid (fun w => isWithin_any q 1 1000000000 w)
  cases hp : inW p 1 1000000000 with
  | false =>
    have HF := hid (show formB p q = false by rw [formB, hp]; rfl)
    rw [hp] at HP
    clear hp
    go_enter Try.func57, Try.ntmps57
    go_wp2_with fail
    refine (HP.out _).mono ?_
    rintro e w' ⟨rfl, rfl⟩
    go_wp2
    go_ret
    exact ⟨hB0, by rw [HF.out]; rfl⟩
  | true =>
    cases hq : inW q 1 1000000000 with
    | false =>
      have HF := hid (show formB p q = false by rw [formB, hp, hq]; rfl)
      rw [hp] at HP
      rw [hq] at HQ
      clear hp hq
      go_enter Try.func57, Try.ntmps57
      go_wp2_with fail
      refine (HP.out _).mono ?_
      rintro e w' ⟨rfl, rfl⟩
      go_wp2_with fail
      refine (HQ.out _).mono ?_
      rintro e w' ⟨rfl, rfl⟩
      go_wp2
      go_ret
      exact ⟨hB0, by rw [HF.out]; rfl⟩
    | true =>
      obtain ⟨P, rfl, P1, P2⟩ := inW_nat hp
      obtain ⟨Q, rfl, Q1, Q2⟩ := inW_nat hq
      have HF := hid (show formB (P : Int) (Q : Int) = decide (((Nat.gcd P Q : Nat) : Int) = 1) by rw [formB, hp, hq, Int.toNat_natCast, Int.toNat_natCast, Bool.and_self, Bool.true_and, decide_eq_decide]; omega)
      have HG := hid (fun w => cdiv_any P Q w (by omega) (by omega))
      rw [hp] at HP
      rw [hq] at HQ
      generalize ((Nat.gcd P Q : Nat) : Int) = g at *
      clear hp hq
      go_enter Try.func57, Try.ntmps57
      go_wp2_with fail
      refine (HP.out _).mono ?_
      rintro e w' ⟨rfl, rfl⟩
      go_wp2_with fail
      refine (HQ.out _).mono ?_
      rintro e w' ⟨rfl, rfl⟩
      go_wp2_with fail
      refine (HG.out _).mono ?_
      rintro e w1 ⟨z1, rfl⟩
      have p1 := hB0.trans (z1.mono (by simp))
      by_cases hg : g = 1
      · subst hg
        go_wp2
        go_ret
        exact ⟨p1, by rw [HF.out]; rfl⟩
      · have hg' : (g == 1) = false := by simp [hg]
        have HX := hid hg
        clear hg
        go_wp2
        go_ret
        exact ⟨p1, by rw [HF.out, decide_eq_false HX.out]; rfl⟩

def CkS (w0 : World) (g : Nat) (p q : Int) (w : World) : Prop := w.cell? ⟨g, 0, none⟩ = some (.int .i64 p) ∧ w.cell? ⟨g, 1, none⟩ = some (.int .i64 q) ∧ Below w0.heap.size w0 w
theorem CkS.keep {w0 : World} {g : Nat} {p q : Int} {w w2 : World} (h : CkS w0 g p q w) (hb : Below w.heap.size w w2) : CkS w0 g p q w2 := ⟨by rw [hb.cell (cell_lt h.1)]; exact h.1, by rw [hb.cell (cell_lt h.2.1)]; exact h.2.1, h.2.2.trans (hb.mono h.2.2.size)⟩
theorem CkS.drew {w0 : World} {g : Nat} {p q : Int} {w : World} (h : CkS w0 g p q w) : CkS w0 g p q w.drew := h.keep (Below.refl _ _).drew
theorem CkS.below {w0 : World} {g : Nat} {p q : Int} {w : World} (h : CkS w0 g p q w) : Below w0.heap.size w0 w := h.2.2

set_option maxRecDepth 100000 in
set_option maxHeartbeats 4000000 in
theorem check4_any (oa ma : Option Addr) (os ms : List Int) (oc mc : Nat) (kind p q : Int) (w : World) (ho : Ints w oa os) (hm : Ints w ma ms) :
  Calls Try.prog 27 #[.slice oa os.length oc, .slice ma ms.length mc, .int .i64 kind, .agg #[.int .i64 p, .int .i64 q]] w (IntR w (checkE os ms kind p q)) := by
  have hB0 := (Below.refl w.heap.size w).alloc (Nat.le_refl _) (.cells #[.int .i64 p, .int .i64 q] 39)
  have S0 := hid (show CkS w w.heap.size p q (w.alloc (.cells #[.int .i64 p, .int .i64 q] 39)) from ⟨by go_simp, by go_simp, hB0⟩)
  have HV := hid (fun (w' : World) (hb : Below w.heap.size w w') => checkDivided_any oa ma os ms oc mc kind w' (ho.below hb) (hm.below hb))
  rw [show (okO os && okMs os ms && okK kind) = goodV os ms kind from rfl] at HV
  have HFo := hid (fun w => form_any p q w)
  cases hd : goodV os ms kind with
  | false =>
    have HD := hid (show checkE os ms kind p q = 1 by rw [checkE, if_pos hd])
    rw [hd] at HV
    clear hd ho hm
    go_enter Try.func27, Try.ntmps27
    go_wp2_with fail
    refine (HV.out _ hB0).mono ?_
    rintro e w' ⟨rfl, rfl⟩
    rw [show err false = 1 from rfl]
    go_wp2
    go_ret
    exact ⟨hB0, by rw [HD.out]; rfl⟩
  | true =>
    obtain ⟨g1, g2, g3⟩ := goodV_ok hd
    cases hf : formB p q with
    | false =>
      have HD := hid (show checkE os ms kind p q = 1 by rw [checkE, if_neg (by rw [hd]; simp), if_pos hf])
      rw [hd] at HV
      rw [hf] at HFo
      clear hd hf ho hm g1 g2 g3
      obtain ⟨a0, a1, _⟩ := S0.out
      go_enter Try.func27, Try.ntmps27
      go_wp2_with fail
      refine (HV.out _ hB0).mono ?_
      rintro e w' ⟨rfl, rfl⟩
      rw [show err true = 0 from rfl]
      go_wp2_with fail
      refine (HFo.out _).mono ?_
      rintro e w1 ⟨z1, rfl⟩
      have p1 := hB0.trans (z1.mono (by simp))
      go_wp2
      go_ret
      exact ⟨p1, by rw [HD.out]; rfl⟩
    | true =>
      have hpq : inW p 1 1000000000 = true ∧ inW q 1 1000000000 = true := by
        simp only [formB, Bool.and_eq_true] at hf; exact hf.1
      have hp : 1 ≤ p ∧ p ≤ 1000000000 := by simpa [inW] using hpq.1
      have hq : 1 ≤ q ∧ q ≤ 1000000000 := by simpa [inW] using hpq.2
      obtain ⟨K, hs⟩ := stepsV_form2 kind
      have HSt := hid (fun w' => stepsOf_any kind w' g3)
      have HPr := hid (fun (w' : World) (hb : Below w.heap.size w w') => areProved_any kind oa ma os ms oc mc p q w' (ho.below hb) (hm.below hb) g1 g2 g3 hp.1 hp.2 hq.1 hq.2)
      have HD := hid (show checkE os ms kind p q = if provM kind os ms p q = false then 8 else 0 by rw [checkE, if_neg (by rw [hd]; simp), if_neg (by rw [hf]; simp)])
      rw [hd] at HV
      rw [hf] at HFo
      rw [hs] at HSt HPr
      clear hd hf ho hm g1 g2 g3 hpq hp hq hs
      generalize provM kind os ms p q = pr at *
      generalize unitV kind = u at *
      obtain ⟨a0, a1, _⟩ := S0.out
      go_enter Try.func27, Try.ntmps27
      go_wp2_with fail
      refine (HV.out _ hB0).mono ?_
      rintro e w' ⟨rfl, rfl⟩
      rw [show err true = 0 from rfl]
      go_wp2_with fail
      refine (HFo.out _).mono ?_
      rintro e w1 ⟨z1, rfl⟩
      have S1 := hid (S0.out.keep z1)
      clear a0 a1 z1 S0
      go_wp2_with fail
      go_region_held3 (fun w' => w'.cell? ⟨w.heap.size, 0, none⟩ = some (.int .i64 p) ∧ w'.cell? ⟨w.heap.size, 1, none⟩ = some (.int .i64 q) ∧ Below w.heap.size w w') (first | assumption | exact S1.out.drew | exact S1.out | exact CkS.keep (by assumption) (by assumption))
        (first | (go_at_call 52; refine (HSt.out _).mono ?_; rintro en w4 ⟨hb4, rfl⟩) | (go_at_call 58; refine (HPr.out _ ?_).mono ?_; (exact CkS.below (by assumption)); rintro en w5 ⟨hb5, rfl⟩))
      have hHeld : CkS w w.heap.size p q w5 := by assumption
      have p5 := hHeld.below
      clear hHeld hb4 hb5
      cases hpr : pr
      · have HX := hid (show checkE os ms kind p q = 8 by rw [HD.out, if_pos hpr])
        go_wp2
        go_ret
        exact ⟨p5, by rw [HX.out]; rfl⟩
      · have HX := hid (show checkE os ms kind p q = 0 by rw [HD.out, if_neg (by rw [hpr]; simp)])
        go_wp2
        go_ret
        exact ⟨p5, by rw [HX.out]; rfl⟩
end Go.Proofs.Ytnjaacmcdkiilaa
