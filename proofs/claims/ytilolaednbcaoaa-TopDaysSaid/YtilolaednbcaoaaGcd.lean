/- The Go functions gcd and modulo of package term. -/
import Derived.Test.YtilolaednbcaoaaBase
import Derived.Test.YtilolaednbcaoaaGcdM
set_option linter.unusedVariables false
namespace Go.Proofs.Ytilolaednbcaoaa
open Go.RowKit

def GcdR (w : World) (p : Int × Int) (en : Ending) (w' : World) : Prop := ∃ n, w' = w.drewN n ∧ en = .returned (.tuple #[.int .i64 p.1, .int .i64 p.2])

set_option maxRecDepth 100000 in
set_option maxHeartbeats 1000000 in
theorem gcd_any (a b : Int) (w : World) (ha : 1 ≤ a) (hb : 1 ≤ b) (ha2 : a ≤ 9223372036854775807) (hb2 : b ≤ 1000000) :
  Calls Try.prog 72 #[.int .i64 a, .int .i64 b] w (GcdR w (egcd a b 1 0)) := by
  have HI := hid (EInv.start a b ha hb)
  go_enter Try.func72, Try.ntmps72
  go_wp2
  refine wp_scope_jumps 0 (fun a' w' => ∃ (n : Nat) (x y f g : Int) (u4 u7 u8 u9 u10 u11 u12 u13 u14 u15 u16 u17 u18 u19 u20 u21 u22 : Value), w' = w.drewN n ∧ a' = { tmps := #[.int .i64 x, .int .i64 y, undef, undef, u4, .int .i64 f, .int .i64 g, u7, u8, u9, u10, u11, u12, u13, u14, u15, u16, u17, u18, u19, u20, u21, u22], defers := [] } ∧ Hid (EInv b x y f g) ∧ x ≤ 9223372036854775807 ∧ y ≤ b ∧ Hid (egcd a b 1 0 = egcd x y f g)) (fun a' _ => (intOf (a'.tmps.getD 1 undef)).toNat) rfl ?_ ?_
  · go_wp2
    go_step3
    have hb0 : (b == 0) = false := by simp; omega
    have hst := (HI.out).step (by omega : 0 < b)
    have hq1 := hst.2.1
    have hq2 := hst.2.2
    have HN := hid hst.1
    have hr := hst.1.n_bound
    have hr0 := Int.emod_lt_of_pos a (by omega : 0 < b)
    have HM := hid (egcd_pos a b 1 0 (by omega))
    clear hst
    go_wp2
    go_quiet (fail)
    go_wp2
    go_quiet (fail)
    go_wp2
    go_step3
    refine ⟨rfl, _, _, _, _, _, _, _, _, _, _, _, _, _, _, _, _, _, _, _, _, _, _, drewN_two _ _ _, rfl, ?_, by omega, by omega, ?_⟩
    · have := HN.out
      unfold Hid
      simpa using this
    · have := HM.out
      unfold Hid
      simpa using this
  · rintro a' w' ⟨n, x, y, f, g, u4, u7, u8, u9, u10, u11, u12, u13, u14, u15, u16, u17, u18, u19, u20, u21, u22, rfl, rfl, HI, hx, hy, HE⟩
    by_cases h0 : 0 < y
    · have hb0 : (y == 0) = false := by simp; omega
      have hx1 := HI.out.1
      have hst := (HI.out).step h0
      have hq1 := hst.2.1
      have hq2 := hst.2.2
      have HN := hid hst.1
      have hf1 := HI.out.2.2.1
      have hf2 := HI.out.2.2.2.1
      have hg := HI.out.n_bound
      have hr := hst.1.n_bound
      have hr0 := Int.emod_lt_of_pos x h0
      have HM := hid (egcd_pos x y f g h0)
      clear hst
      go_wp2
      go_quiet (fail)
      go_wp2
      go_quiet (fail)
      go_wp2
      go_step3
      refine ⟨rfl, ⟨_, _, _, _, _, _, _, _, _, _, _, _, _, _, _, _, _, _, _, _, _, _, drewN_three _ _ _ _, rfl, HN, by omega, by omega, ?_⟩, ?_⟩
      · unfold Hid
        rw [HE.out, HM.out]
      · simp [intOf]
        omega
    · obtain rfl : y = 0 := by have := HI.out.2.1; omega
      go_wp2
      simp only [Exit.jump]
      go_ret2
      exact ⟨n, rfl, ret_ints (by rw [HE.out, egcd_zero]) (by rw [HE.out, egcd_zero])⟩

end Go.Proofs.Ytilolaednbcaoaa
