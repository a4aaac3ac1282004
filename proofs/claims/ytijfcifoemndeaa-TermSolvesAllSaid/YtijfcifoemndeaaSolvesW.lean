/- The law TermSolves: its walk. -/
import Derived.Test.YtijfcifoemndeaaRSolve
import Derived.Test.YtijfcifoemndeaaKnown
set_option linter.unusedVariables false
namespace Go.Proofs.Ytijfcifoemndeaa
open Go.RowKit

theorem Lines.below {w w' : World} {a : Option Addr} {ls : List (Int × Int)} (h : Lines w a ls) (hb : Below w.heap.size w w') : Lines w' a ls := by
  refine ⟨h.len, ?_, h.bd⟩
  rcases h.at_ with e | ⟨b, off, ha, hc⟩
  · exact .inl e
  · exact .inr ⟨b, off, ha, fun i hi => by
      have h1 := hc i hi
      rw [hb.cell (cell_lt h1.1), hb.cell (cell_lt h1.2)]; exact h1⟩

set_option maxRecDepth 100000 in
set_option maxHeartbeats 4000000 in
theorem solves_walk (a : Option Addr) (ls : List (Int × Int)) (cap : Nat) (w : World) (h1 : ls.length ≤ 9223372036854775807) (hT : ls.length ≤ 140737488355328 → Lines w a ls) :
  Calls Try.prog 12 #[.slice a ls.length cap] w (BoolR w true) := by
  by_cases hl : 100 < ls.length
  · have hl' : (100 : Int) < (ls.length : Int) := by omega
    go_enter Try.func12, Try.ntmps12
    go_wp2_with fail
    refine (known_any _).mono ?_
    rintro e w2 ⟨q2, rfl⟩
    go_wp2
    go_ret
    exact ⟨q2, rfl⟩
  · have hL := hT (by omega)
    have hl' : (ls.length : Int) ≤ 100 := by omega
    clear hT
    go_enter Try.func12, Try.ntmps12
    go_wp2_with fail
    refine (solve_any _ _ _ _ hL).mono ?_
    rintro e w1 ⟨p1, rfl⟩
    rw [solveL_eq]
    go_wp2_with fail
    refine (rsolve_any _ _ _ _ (hL.below p1)).mono ?_
    rintro e w2 ⟨q2, rfl⟩
    have p2 := p1.trans (q2.mono p1.size)
    go_wp2_with fail
    refine (known_any _).mono ?_
    rintro e w4 ⟨q4, rfl⟩
    go_wp2
    go_ret
    exact ⟨p2.trans (q4.mono p2.size), rfl⟩

end Go.Proofs.Ytijfcifoemndeaa
