/- The law DishMenus: its walk. -/
import Derived.Test.YtdmoaofbijgeeabRMenus
import Derived.Test.YtdmoaofbijgeeabKnownD
set_option linter.unusedVariables false
namespace Go.Proofs.Ytdmoaofbijgeeab
open Go.RowKit

set_option maxRecDepth 100000 in
set_option maxHeartbeats 4000000 in
theorem dishMenus_walk (a : Option Addr) (rows : List Int) (cap : Nat) (d : Int) (w : World) (h1 : rows.length ≤ 9223372036854775807) (hT : rows.length ≤ 140737488355328 → Ints w a rows) :
  Calls Try.prog 3 #[.slice a rows.length cap, .int .i64 d] w (BoolR w true) := by
  by_cases hl : 60 < rows.length
  · have hl' : (60 : Int) < (rows.length : Int) := by omega
    go_enter Try.func3, Try.ntmps3
    go_wp2_with fail
    refine (knownD_any _).mono ?_
    rintro e w2 ⟨q2, rfl⟩
    go_wp2
    go_ret
    exact ⟨q2, rfl⟩
  · have hL := hT (by omega)
    have hl' : (rows.length : Int) ≤ 60 := by omega
    clear hT
    have hml : (menusR rows d).1.length ≤ 256 := by
      unfold menusR
      split
      · simp
      · rename_i hz
        have := validTab_ok (by simpa using hz)
        have hp := pow_le_256 this.1 this.2.1
        have := menusTo_len rows (2 ^ d.toNat)
        simp; omega
    have hmb : ∀ x ∈ (menusR rows d).1, -9223372036854775808 ≤ x ∧ x ≤ 9223372036854775807 := by
      unfold menusR
      split
      · simp
      · rename_i hz
        have := validTab_ok (by simpa using hz)
        have hp := pow_le_256 this.1 this.2.1
        intro x hx
        have := menusTo_bd rows (2 ^ d.toNat) x hx
        omega
    go_enter Try.func3, Try.ntmps3
    go_wp2_with fail
    refine (tmenus_any _ _ _ _ _ hL).mono ?_
    rintro e w1 ⟨p1, A, c, rfl, o1⟩
    go_wp2_with fail
    refine (rmenus_any _ _ _ _ _ (hL.below p1)).mono ?_
    rintro e w2 ⟨q2, A2, c2, rfl, o2⟩
    have p2 := p1.trans (q2.mono p1.size)
    obtain ⟨_, _, hv, i1⟩ := o1.ints (by omega) hmb
    cases hv
    obtain ⟨_, _, hv, i2⟩ := o2.ints (by omega) hmb
    cases hv
    have i1 := i1.below q2
    clear o1 o2
    generalize (menusR rows d).1 = ms at *
    generalize (menusR rows d).2 = er at *
    have hbe : (er == er) = true := by simp
    go_wp2_with fail
    refine (same_any _ _ _ _ _ _ _ i1 i2).mono ?_
    rintro e w3 ⟨⟨n, hw3⟩, rfl⟩
    have q3 : Below w2.heap.size w2 w3 := by rw [hw3]; exact below_drewN (Below.refl _ _) _
    clear hw3
    have p3 := p2.trans (q3.mono p2.size)
    rw [show sameB ms ms = true by simp [sameB]]
    go_wp2_with fail
    refine (knownD_any _).mono ?_
    rintro e w4 ⟨q4, rfl⟩
    go_wp2
    go_ret
    exact ⟨p3.trans (q4.mono p3.size), by simp⟩

end Go.Proofs.Ytdmoaofbijgeeab
