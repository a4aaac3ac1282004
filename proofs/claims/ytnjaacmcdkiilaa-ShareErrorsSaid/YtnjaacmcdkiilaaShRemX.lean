/- Remainders of package share, and the document's own. -/
import Derived.Test.YtnjaacmcdkiilaaShRemR
import Derived.Test.YtnjaacmcdkiilaaShI
set_option linter.unusedVariables false
namespace Go.Proofs.Ytnjaacmcdkiilaa
open Go.RowKit

def remO (os : List Int) (n : Int) : Bool := okO os && inW n 0 1000
def remV (os : List Int) (n : Int) : List Int := if remO os n = true then remL os n else []
theorem remO_ok {os : List Int} {n : Int} (h : remO os n = true) : okO os = true ∧ 0 ≤ n ∧ n ≤ 1000 := by
  unfold remO inW at h
  simp at h
  exact h
theorem remL_len (os : List Int) (n : Int) : (remL os n).length = os.length := plusTo_len _ _ _ _
theorem remL_at {os : List Int} {n : Int} {k : Nat} (hk : k < os.length) : at0 (remL os n) k = flo os n k + if rnk (fra os n) os.length k < (lft os n).toNat then 1 else 0 := plusTo_at _ _ _ _ _ hk

set_option maxHeartbeats 1000000 in
theorem remainders_any (oa : Option Addr) (os : List Int) (oc : Nat) (n : Int) (w : World) (ho : Ints w oa os) :
  Calls Try.prog 34 #[.slice oa os.length oc, .int .i64 n] w (ListE w (remV os n) (err (remO os n))) := by
  have HV := hid (show Calls Try.prog 69 #[.slice oa os.length oc, .int .i64 n] w (ErrR w (remO os n)) from checkNumber_any oa os oc n w ho)
  cases hd : remO os n with
  | false =>
    have HD := hid (show remV os n = [] by rw [remV, hd]; rfl)
    rw [hd] at HV
    clear hd ho
    go_enter Try.func34, Try.ntmps34
    go_wp2_with fail
    refine HV.out.mono ?_
    rintro e w' ⟨rfl, rfl⟩
    rw [show err false = 1 from rfl]
    go_wp2
    go_ret2
    exact ⟨Below.refl _ _, none, 0, by rw [HD.out]; rfl, by rw [HD.out]; exact Own.nil _ _⟩
  | true =>
    obtain ⟨g1, g2, g3⟩ := remO_ok hd
    have HD := hid (show remV os n = remL os n by rw [remV, hd]; rfl)
    have HG := hid (byRests_any oa os oc n w ho g1 g2 g3)
    have HLn := hid (remL_len os n)
    rw [hd] at HV
    clear hd ho g1 g2
    go_enter Try.func34, Try.ntmps34
    go_wp2_with fail
    refine HV.out.mono ?_
    rintro e w' ⟨rfl, rfl⟩
    rw [show err true = 0 from rfl]
    go_wp2_with fail
    refine HG.out.mono ?_
    rintro e w1 ⟨q1, A, c, rfl, o1⟩
    go_wp2
    go_ret2
    exact ⟨q1, A, c, by rw [HD.out, HLn.out]; rfl, by rw [HD.out]; unfold Own; rw [HLn.out]; exact o1⟩
set_option maxHeartbeats 1000000 in
theorem rremainders_any (oa : Option Addr) (os : List Int) (oc : Nat) (n : Int) (w : World) (ho : Ints w oa os) :
  Calls Try.prog 35 #[.slice oa os.length oc, .int .i64 n] w (ListE w (remV os n) (err (remO os n))) := by
  have HV := hid (rvalidateO_any oa os oc w ho)
  have HC := hid (fun w => countOK_any n w)
  have HE := hid (show remO os n = (okO os && inW n 0 1000) from rfl)
  cases h1 : okO os with
  | false =>
    have hd : remO os n = false := by rw [HE.out, h1]; rfl
    have HD := hid (show remV os n = [] by rw [remV, hd]; rfl)
    rw [h1] at HV
    rw [hd]
    clear hd ho HE HC
    go_enter Try.func35, Try.ntmps35
    go_wp2_with fail
    refine HV.out.mono ?_
    rintro e w' ⟨rfl, rfl⟩
    rw [show err false = 1 from rfl]
    go_wp2
    go_ret2
    exact ⟨Below.refl _ _, none, 0, by rw [HD.out]; rfl, by rw [HD.out]; exact Own.nil _ _⟩
  | true =>
    rw [h1] at HV
    cases h2 : inW n 0 1000 with
    | false =>
      have hd : remO os n = false := by rw [HE.out, h1, h2]; rfl
      have HD := hid (show remV os n = [] by rw [remV, hd]; rfl)
      rw [h2] at HC
      rw [hd]
      clear hd ho HE
      go_enter Try.func35, Try.ntmps35
      go_wp2_with fail
      refine HV.out.mono ?_
      rintro e w' ⟨rfl, rfl⟩
      rw [show err true = 0 from rfl, show err false = 1 from rfl]
      go_wp2_with fail
      refine (HC.out _).mono ?_
      rintro e w' ⟨rfl, rfl⟩
      go_wp2
      go_ret2
      exact ⟨Below.refl _ _, none, 0, by rw [HD.out]; rfl, by rw [HD.out]; exact Own.nil _ _⟩
    | true =>
      have hd : remO os n = true := by rw [HE.out, h1, h2]; rfl
      obtain ⟨g1, g2, g3⟩ := remO_ok hd
      have HD := hid (show remV os n = remL os n by rw [remV, hd]; rfl)
      have HG := hid (rrem_any oa os oc n w ho g1 g2 g3)
      have HLn := hid (remL_len os n)
      rw [h2] at HC
      rw [hd]
      clear hd ho g1 g2 HE
      go_enter Try.func35, Try.ntmps35
      go_wp2_with fail
      refine HV.out.mono ?_
      rintro e w' ⟨rfl, rfl⟩
      rw [show err true = 0 from rfl]
      go_wp2_with fail
      refine (HC.out _).mono ?_
      rintro e w' ⟨rfl, rfl⟩
      go_wp2_with fail
      refine HG.out.mono ?_
      rintro e w1 ⟨q1, A, c, rfl, o1⟩
      go_wp2
      go_ret2
      exact ⟨q1, A, c, by rw [HD.out, HLn.out]; rfl, by rw [HD.out]; unfold Own; rw [HLn.out]; exact o1⟩
end Go.Proofs.Ytnjaacmcdkiilaa
