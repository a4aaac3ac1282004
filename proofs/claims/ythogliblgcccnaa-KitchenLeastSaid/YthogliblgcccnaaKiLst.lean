/- Best and Least: package kitchen. -/
import Derived.Test.YthogliblgcccnaaKiBest
set_option linter.unusedVariables false
namespace Go.Proofs.Ythogliblgcccnaa
open Go.RowKit

def LeastQ (w : World) (l : List Bt) (en : Ending) (w' : World) : Prop := Below w.heap.size w w' ∧ ∃ m, IsLeast l m ∧ en = .returned (.tuple #[.int .i64 m, .int .i64 0])
def BestQ (w : World) (l : List Bt) (en : Ending) (w' : World) : Prop := Below w.heap.size w w' ∧ ∃ F cf f, en = .returned (.tuple #[.slice F f.length cf, .int .i64 0]) ∧ Ints w' F f ∧ IsOrd f l.length ∧ IsLeast l (timeO l f)
set_option maxRecDepth 100000 in
set_option maxHeartbeats 1000000 in
theorem kLeast_ok (a : Option Addr) (l : List Bt) (cap : Nat) (w : World) (h : Bts w a l) (h0 : valE l = 0) : Calls Try.prog 29 #[.slice a l.length cap] w (LeastQ w l) := by
  have hlen := h.len
  have HV := hid (kValidate_any a l cap w h)
  have HR := hid (fun W (hb : Below w.heap.size w W) => kBest_any a l cap W (h.below hb) (valE_ok h0))
  rw [h0] at HV
  clear h h0
  go_enter Try.func29, Try.ntmps29
  go_wp2_with fail
  refine HV.out.mono ?_
  rintro e w1 ⟨hb1, rfl⟩
  have P1 := hid hb1
  clear hb1
  go_wp2_with fail
  refine (HR.out _ P1.out).mono ?_
  rintro e w2 ⟨hb2, F, cf, f, m, rfl, hi, ho, ht, hm⟩
  have P2 := hid (P1.out.trans (hb2.mono P1.out.size))
  have HM := hid hm
  have hfl := hi.len
  clear hb2 hi ho ht hm
  go_wp2
  go_ret2
  exact ⟨P2.out, m, HM.out, rfl⟩
set_option maxRecDepth 100000 in
set_option maxHeartbeats 1000000 in
theorem kLeast_bad (a : Option Addr) (l : List Bt) (cap : Nat) (w : World) (h : Bts w a l) (h0 : ¬ valE l = 0) : Calls Try.prog 29 #[.slice a l.length cap] w (PairK w (0, valE l)) := by
  have hlen := h.len
  have HV := hid (kValidate_any a l cap w h)
  have h1 : (valE l != 0) = true := by simp [h0]
  clear h h0
  generalize valE l = v at *
  go_enter Try.func29, Try.ntmps29
  go_wp2_with fail
  refine HV.out.mono ?_
  rintro e w1 ⟨hb1, rfl⟩
  have P1 := hid hb1
  clear hb1
  go_wp2
  go_ret2
  exact ⟨P1.out, rfl⟩
set_option maxRecDepth 100000 in
set_option maxHeartbeats 1000000 in
theorem kBestP_ok (a : Option Addr) (l : List Bt) (cap : Nat) (w : World) (h : Bts w a l) (h0 : valE l = 0) : Calls Try.prog 31 #[.slice a l.length cap] w (BestQ w l) := by
  have hlen := h.len
  have HV := hid (kValidate_any a l cap w h)
  have HR := hid (fun W (hb : Below w.heap.size w W) => kBest_any a l cap W (h.below hb) (valE_ok h0))
  rw [h0] at HV
  clear h h0
  go_enter Try.func31, Try.ntmps31
  go_wp2_with fail
  refine HV.out.mono ?_
  rintro e w1 ⟨hb1, rfl⟩
  have P1 := hid hb1
  clear hb1
  go_wp2_with fail
  refine (HR.out _ P1.out).mono ?_
  rintro e w2 ⟨hb2, F, cf, f, m, rfl, hi, ho, ht, hm⟩
  have P2 := hid (P1.out.trans (hb2.mono P1.out.size))
  have HM := hid (show IsLeast l (timeO l f) by rw [ht]; exact hm)
  have HI := hid hi
  have HO := hid ho
  have hfl := hi.len
  clear hb2 hi ho ht hm
  go_wp2
  go_ret2
  exact ⟨P2.out, F, cf, f, rfl, HI.out, HO.out, HM.out⟩
set_option maxRecDepth 100000 in
set_option maxHeartbeats 1000000 in
theorem kBestP_bad (a : Option Addr) (l : List Bt) (cap : Nat) (w : World) (h : Bts w a l) (h0 : ¬ valE l = 0) : Calls Try.prog 31 #[.slice a l.length cap] w (fun en w' => Below w.heap.size w w' ∧ en = .returned (.tuple #[.slice none 0 0, .int .i64 (valE l)])) := by
  have hlen := h.len
  have HV := hid (kValidate_any a l cap w h)
  have h1 : (valE l != 0) = true := by simp [h0]
  clear h h0
  generalize valE l = v at *
  go_enter Try.func31, Try.ntmps31
  go_wp2_with fail
  refine HV.out.mono ?_
  rintro e w1 ⟨hb1, rfl⟩
  have P1 := hid hb1
  clear hb1
  go_wp2
  go_ret2
  exact ⟨P1.out, rfl⟩
end Go.Proofs.Ythogliblgcccnaa
