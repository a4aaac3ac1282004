/- The law's own test for long lists. -/
import Derived.Test.YtilolaednbcaoaaValid
import Derived.Test.YtilolaednbcaoaaTurnsM
set_option linter.unusedVariables false
namespace Go.Proofs.Ytilolaednbcaoaa
open Go.RowKit

set_option maxRecDepth 100000 in
set_option maxHeartbeats 400000 in
theorem long_any (L : Int) (ra : Option Addr) (rs : List Int) (rc : Nat) (ca : Option Addr) (cs : List Int) (cc : Nat) (w : World) (h1 : rs.length ≤ 9223372036854775807) (h2 : cs.length ≤ 9223372036854775807) :
  Calls Try.prog 9 #[.agg #[.int .i64 L, .slice ra rs.length rc, .slice ca cs.length cc]] w (BoolR w (longB rs cs)) := by
  have hB := (Below.refl w.heap.size w).alloc (Nat.le_refl _) (.cells #[.int .i64 L, .slice ra rs.length rc, .slice ca cs.length cc] 24)
  by_cases h3 : 50 < rs.length
  · have HR := hid (show longB rs cs = true by simp [longB, h3])
    have h3' : (50 : Int) < (rs.length : Int) := by omega
    go_enter Try.func9, Try.ntmps9
    go_wp2
    go_ret
    exact ⟨hB, ret_bool HR.out.symm⟩
  · have h3' : (rs.length : Int) ≤ 50 := by omega
    have HR := hid (show longB rs cs = decide ((200 : Int) < (cs.length : Int)) by rw [longB, decide_eq_decide]; omega)
    go_enter Try.func9, Try.ntmps9
    go_wp2
    go_ret
    exact ⟨hB, ret_bool (by rw [HR.out]; simp; omega)⟩

end Go.Proofs.Ytilolaednbcaoaa
