/- The walk of the law GuessCosts. -/
import Derived.Test.YtfjncmhbpfcdiaaGuCr
import Derived.Test.YtfjncmhbpfcdiaaGuKn
set_option linter.unusedVariables false
namespace Go.Proofs.Ytfjncmhbpfcdiaa
open Go.RowKit

set_option maxRecDepth 100000 in
set_option maxHeartbeats 2000000 in
theorem guessCosts_walk (a : Option Addr) (l : List Int) (cap : Nat) (o u q : Int) (w : World) (h0 : l.length ≤ 9223372036854775807) (h : l.length ≤ 140737488355328 → Ints w a l) (bo : -9223372036854775808 ≤ o ∧ o ≤ 9223372036854775807) (bu : -9223372036854775808 ≤ u ∧ u ≤ 9223372036854775807) (bq : -9223372036854775808 ≤ q ∧ q ≤ 9223372036854775807) :
  Calls Try.prog 10 #[.slice a l.length cap, .agg #[.int .i64 o, .int .i64 u], .int .i64 q] w (BoolR w true) := by
  have hB0 := (Below.refl w.heap.size w).alloc (Nat.le_refl _) (.cells #[.int .i64 o, .int .i64 u] 55)
  by_cases hl : 300 < l.length
  · have hl' : (300 : Int) < (l.length : Int) := by omega
    have P0 := hid hB0
    clear h hl hB0
    go_enter Try.func10, Try.ntmps10
    go_wp2_with fail
    refine (known6_any _).mono ?_
    rintro e w2 ⟨hb, rfl⟩
    have P1 := hid (P0.out.trans (hb.mono P0.out.size))
    clear hb
    go_wp2
    go_ret
    exact ⟨P1.out, rfl⟩
  · have hl' : (l.length : Int) ≤ 300 := by omega
    have hI := (h (by omega)).below hB0
    have H0 := hid (gCostP_any a l cap o u q _ hI)
    have H1 := hid (grCostP_any a l cap o u q _ hI)
    have H2 := hid (gMrgP_any a l cap o u q _ hI)
    have H3 := hid (grMrgP_any a l cap o u q _ hI)
    generalize costV l o u q = p at *
    obtain ⟨p1, p2⟩ := p
    generalize mrgV l o u q = r at *
    obtain ⟨r1, r2⟩ := r
    have P0 := hid hB0
    clear h hl hB0 hI
    go_enter Try.func10, Try.ntmps10
    go_wp2_with fail
    refine H0.out.mono ?_
    rintro e w1 ⟨rfl, rfl⟩
    go_wp2_with fail
    refine H1.out.mono ?_
    rintro e w1 ⟨rfl, rfl⟩
    go_wp2_with fail
    refine H2.out.mono ?_
    rintro e w1 ⟨rfl, rfl⟩
    go_wp2_with fail
    refine H3.out.mono ?_
    rintro e w1 ⟨rfl, rfl⟩
    go_wp2_with fail
    refine (known6_any _).mono ?_
    rintro e w2 ⟨hb, rfl⟩
    have P1 := hid (P0.out.trans (hb.mono P0.out.size))
    clear hb
    go_wp2
    go_ret
    exact ⟨P1.out, rfl⟩
end Go.Proofs.Ytfjncmhbpfcdiaa
