/- Divide, Order, Claimer, Giver of package share. -/
import Derived.Test.YtnjaacmcdkiilaaShH
set_option linter.unusedVariables false
namespace Go.Proofs.Ytnjaacmcdkiilaa
open Go.RowKit

def ListE (w : World) (l : List Int) (e : Int) (en : Ending) (w' : World) : Prop := Below w.heap.size w w' ∧ ∃ A c, en = .returned (.tuple #[.slice A l.length c, .int .i64 e]) ∧ Own w' w.heap.size (.slice A l.length c) l
theorem divE_ok {os : List Int} {n kind : Int} (h : divE os n kind = true) : okO os = true ∧ okK kind = true ∧ ∃ m : Nat, n = (m : Int) ∧ m ≤ 1000 := by
  simp only [divE, Bool.and_eq_true] at h
  have h2 : 0 ≤ n ∧ n ≤ 1000 := by simpa [inW] using h.1.2
  exact ⟨h.1.1, h.2, n.toNat, by omega, by omega⟩
theorem err_ne (b : Bool) (h : b = false) : (err b != 0) = true := by rw [h]; rfl

set_option maxRecDepth 100000 in
set_option maxHeartbeats 1000000 in
theorem divide_any (oa : Option Addr) (os : List Int) (oc : Nat) (n kind : Int) (w : World) (ho : Ints w oa os) :
  Calls Try.prog 17 #[.slice oa os.length oc, .int .i64 n, .int .i64 kind] w (ListE w (divL os n kind) (err (divE os n kind))) := by
  have HV := hid (checkDividing_any oa os oc n kind w ho)
  cases hd : divE os n kind with
  | false =>
    have HD := hid (show divL os n kind = [] by rw [divL, hd]; rfl)
    rw [hd] at HV
    clear hd ho
    go_enter Try.func17, Try.ntmps17
    go_wp2_with fail
    refine HV.out.mono ?_
    rintro e w' ⟨rfl, rfl⟩
    rw [show err false = 1 from rfl]
    go_wp2
    go_ret2
    exact ⟨Below.refl _ _, none, 0, by rw [HD.out]; rfl, by rw [HD.out]; exact Own.nil _ _⟩
  | true =>
    obtain ⟨g1, g2, m, rfl, hm⟩ := divE_ok hd
    have HD := hid (show divL os (m : Int) kind = (giveL kind os m).2 by rw [divL, hd]; rfl)
    have HG := hid (giveAway_any kind oa os oc m w ho g1 g2 hm)
    rw [hd] at HV
    clear hd ho g1 g2
    go_enter Try.func17, Try.ntmps17
    go_wp2_with fail
    refine HV.out.mono ?_
    rintro e w' ⟨rfl, rfl⟩
    rw [show err true = 0 from rfl]
    go_wp2_with fail
    refine HG.out.mono ?_
    rintro e w1 ⟨q1, A, c, B, d, rfl, o1, o2⟩
    go_wp2
    go_ret2
    exact ⟨q1, B, d, by rw [HD.out]; rfl, by rw [HD.out]; exact o2⟩

set_option maxRecDepth 100000 in
set_option maxHeartbeats 1000000 in
theorem order_any (oa : Option Addr) (os : List Int) (oc : Nat) (n kind : Int) (w : World) (ho : Ints w oa os) :
  Calls Try.prog 19 #[.slice oa os.length oc, .int .i64 n, .int .i64 kind] w (ListE w (ordL os n kind) (err (divE os n kind))) := by
  have HV := hid (checkDividing_any oa os oc n kind w ho)
  cases hd : divE os n kind with
  | false =>
    have HD := hid (show ordL os n kind = [] by rw [ordL, hd]; rfl)
    rw [hd] at HV
    clear hd ho
    go_enter Try.func19, Try.ntmps19
    go_wp2_with fail
    refine HV.out.mono ?_
    rintro e w' ⟨rfl, rfl⟩
    rw [show err false = 1 from rfl]
    go_wp2
    go_ret2
    exact ⟨Below.refl _ _, none, 0, by rw [HD.out]; rfl, by rw [HD.out]; exact Own.nil _ _⟩
  | true =>
    obtain ⟨g1, g2, m, rfl, hm⟩ := divE_ok hd
    have HD := hid (show ordL os (m : Int) kind = (giveL kind os m).1 by rw [ordL, hd]; rfl)
    have HG := hid (giveAway_any kind oa os oc m w ho g1 g2 hm)
    rw [hd] at HV
    clear hd ho g1 g2
    go_enter Try.func19, Try.ntmps19
    go_wp2_with fail
    refine HV.out.mono ?_
    rintro e w' ⟨rfl, rfl⟩
    rw [show err true = 0 from rfl]
    go_wp2_with fail
    refine HG.out.mono ?_
    rintro e w1 ⟨q1, A, c, B, d, rfl, o1, o2⟩
    go_wp2
    go_ret2
    exact ⟨q1, A, c, by rw [HD.out]; rfl, by rw [HD.out]; exact o1⟩
end Go.Proofs.Ytnjaacmcdkiilaa
