/- The tests of several arguments of package share, and the document's own. -/
import Derived.Test.YtnjaacmcdkiilaaShA
set_option linter.unusedVariables false
namespace Go.Proofs.Ytnjaacmcdkiilaa
open Go.RowKit

set_option maxHeartbeats 1000000 in
theorem checkNumber_any (a : Option Addr) (l : List Int) (cap : Nat) (n : Int) (w : World) (h : Ints w a l) : Calls Try.prog 69 #[.slice a l.length cap, .int .i64 n] w (ErrR w (okO l && inW n 0 1000)) := by
  have HV := hid (validateO_any a l cap w h)
  have HN := hid (isWithin_any n 0 1000 w)
  clear h
  cases ho : okO l with
  | false =>
    rw [ho] at HV
    clear ho
    go_enter Try.func69, Try.ntmps69
    go_wp2_with fail
    refine HV.out.mono ?_
    rintro e w' ⟨rfl, rfl⟩
    rw [show err false = 1 from rfl]
    go_wp2
    go_ret
    exact ⟨rfl, rfl⟩
  | true =>
    rw [ho] at HV
    clear ho
    cases hn : inW n 0 1000 with
    | false =>
      rw [hn] at HN
      clear hn
      go_enter Try.func69, Try.ntmps69
      go_wp2_with fail
      refine HV.out.mono ?_
      rintro e w' ⟨rfl, rfl⟩
      rw [show err true = 0 from rfl]
      go_wp2_with fail
      refine HN.out.mono ?_
      rintro e w' ⟨rfl, rfl⟩
      go_wp2
      go_ret
      exact ⟨rfl, rfl⟩
    | true =>
      rw [hn] at HN
      clear hn
      go_enter Try.func69, Try.ntmps69
      go_wp2_with fail
      refine HV.out.mono ?_
      rintro e w' ⟨rfl, rfl⟩
      rw [show err true = 0 from rfl]
      go_wp2_with fail
      refine HN.out.mono ?_
      rintro e w' ⟨rfl, rfl⟩
      go_wp2
      go_ret
      exact ⟨rfl, rfl⟩

set_option maxHeartbeats 1000000 in
theorem checkMeals_any (a b : Option Addr) (os ms : List Int) (ca cb : Nat) (w : World) (h : Ints w a os) (h2 : Ints w b ms) : Calls Try.prog 76 #[.slice a os.length ca, .slice b ms.length cb] w (ErrR w (okO os && okMs os ms)) := by
  have hlo := h.len
  have hlm := h2.len
  have HV := hid (validateO_any a os ca w h)
  have HN := hid (areWithin_any b ms cb 0 1000 w h2)
  clear h h2
  cases ho : okO os with
  | false =>
    rw [ho] at HV
    clear ho
    go_enter Try.func76, Try.ntmps76
    go_wp2_with fail
    refine HV.out.mono ?_
    rintro e w' ⟨rfl, rfl⟩
    rw [show err false = 1 from rfl]
    go_wp2
    go_ret
    exact ⟨rfl, rfl⟩
  | true =>
    rw [ho] at HV
    clear ho
    by_cases hl : ms.length = os.length
    · have hl' : ((ms.length : Int) != (os.length : Int)) = false := by simp; omega
      have HS := hid (show okMs os ms = allIn 0 1000 ms by simp [okMs, hl])
      clear hl
      cases hn : allIn 0 1000 ms with
      | false =>
        rw [hn] at HN HS
        have HS := hid HS.out
        clear hn
        go_enter Try.func76, Try.ntmps76
        go_wp2_with fail
        refine HV.out.mono ?_
        rintro e w' ⟨rfl, rfl⟩
        rw [show err true = 0 from rfl]
        go_wp2_with fail
        refine HN.out.mono ?_
        rintro e w' ⟨rfl, rfl⟩
        go_wp2
        go_ret
        exact ⟨rfl, by rw [HS.out]; rfl⟩
      | true =>
        rw [hn] at HN HS
        have HS := hid HS.out
        clear hn
        go_enter Try.func76, Try.ntmps76
        go_wp2_with fail
        refine HV.out.mono ?_
        rintro e w' ⟨rfl, rfl⟩
        rw [show err true = 0 from rfl]
        go_wp2_with fail
        refine HN.out.mono ?_
        rintro e w' ⟨rfl, rfl⟩
        go_wp2
        go_ret
        exact ⟨rfl, by rw [HS.out]; rfl⟩
    · have hl' : ((ms.length : Int) != (os.length : Int)) = true := by simp; omega
      have HS := hid (show okMs os ms = false by simp [okMs, hl])
      clear hl
      go_enter Try.func76, Try.ntmps76
      go_wp2_with fail
      refine HV.out.mono ?_
      rintro e w' ⟨rfl, rfl⟩
      rw [show err true = 0 from rfl]
      go_wp2
      go_ret
      exact ⟨rfl, by rw [HS.out]; rfl⟩

set_option maxHeartbeats 1000000 in
theorem checkDividing_any (a : Option Addr) (l : List Int) (cap : Nat) (n k : Int) (w : World) (h : Ints w a l) : Calls Try.prog 46 #[.slice a l.length cap, .int .i64 n, .int .i64 k] w (ErrR w (divE l n k)) := by
  have HV := hid (checkNumber_any a l cap n w h)
  have HN := hid (isKind_any k w)
  unfold divE
  clear h
  cases ho : (okO l && inW n 0 1000) with
  | false =>
    rw [ho] at HV
    clear ho
    go_enter Try.func46, Try.ntmps46
    go_wp2_with fail
    refine HV.out.mono ?_
    rintro e w' ⟨rfl, rfl⟩
    rw [show err false = 1 from rfl]
    go_wp2
    go_ret
    exact ⟨rfl, rfl⟩
  | true =>
    rw [ho] at HV
    clear ho
    cases hn : okK k with
    | false =>
      rw [hn] at HN
      clear hn
      go_enter Try.func46, Try.ntmps46
      go_wp2_with fail
      refine HV.out.mono ?_
      rintro e w' ⟨rfl, rfl⟩
      rw [show err true = 0 from rfl]
      go_wp2_with fail
      refine HN.out.mono ?_
      rintro e w' ⟨rfl, rfl⟩
      go_wp2
      go_ret
      exact ⟨rfl, rfl⟩
    | true =>
      rw [hn] at HN
      clear hn
      go_enter Try.func46, Try.ntmps46
      go_wp2_with fail
      refine HV.out.mono ?_
      rintro e w' ⟨rfl, rfl⟩
      rw [show err true = 0 from rfl]
      go_wp2_with fail
      refine HN.out.mono ?_
      rintro e w' ⟨rfl, rfl⟩
      go_wp2
      go_ret
      exact ⟨rfl, rfl⟩

set_option maxHeartbeats 1000000 in
theorem checkDivided_any (a b : Option Addr) (os ms : List Int) (ca cb : Nat) (k : Int) (w : World) (h : Ints w a os) (h2 : Ints w b ms) : Calls Try.prog 51 #[.slice a os.length ca, .slice b ms.length cb, .int .i64 k] w (ErrR w (okO os && okMs os ms && okK k)) := by
  have HV := hid (checkMeals_any a b os ms ca cb w h h2)
  have HN := hid (isKind_any k w)
  clear h h2
  cases ho : (okO os && okMs os ms) with
  | false =>
    rw [ho] at HV
    clear ho
    go_enter Try.func51, Try.ntmps51
    go_wp2_with fail
    refine HV.out.mono ?_
    rintro e w' ⟨rfl, rfl⟩
    rw [show err false = 1 from rfl]
    go_wp2
    go_ret
    exact ⟨rfl, rfl⟩
  | true =>
    rw [ho] at HV
    clear ho
    cases hn : okK k with
    | false =>
      rw [hn] at HN
      clear hn
      go_enter Try.func51, Try.ntmps51
      go_wp2_with fail
      refine HV.out.mono ?_
      rintro e w' ⟨rfl, rfl⟩
      rw [show err true = 0 from rfl]
      go_wp2_with fail
      refine HN.out.mono ?_
      rintro e w' ⟨rfl, rfl⟩
      go_wp2
      go_ret
      exact ⟨rfl, rfl⟩
    | true =>
      rw [hn] at HN
      clear hn
      go_enter Try.func51, Try.ntmps51
      go_wp2_with fail
      refine HV.out.mono ?_
      rintro e w' ⟨rfl, rfl⟩
      rw [show err true = 0 from rfl]
      go_wp2_with fail
      refine HN.out.mono ?_
      rintro e w' ⟨rfl, rfl⟩
      go_wp2
      go_ret
      exact ⟨rfl, rfl⟩

set_option maxHeartbeats 1000000 in
theorem ask_any (a : Option Addr) (l : List Int) (cap : Nat) (n k : Int) (w : World) (h : Ints w a l) : Calls Try.prog 48 #[.slice a l.length cap, .int .i64 n, .int .i64 k] w (ErrR w (divE l n k)) := by
  have HV := hid (rvalidateO_any a l cap w h)
  have HN := hid (kindOK_any k w)
  have HC := hid (countOK_any n w)
  unfold divE
  clear h
  cases ho : okO l with
  | false =>
    rw [ho] at HV
    clear ho
    go_enter Try.func48, Try.ntmps48
    go_wp2_with fail
    refine HV.out.mono ?_
    rintro e w' ⟨rfl, rfl⟩
    rw [show err false = 1 from rfl]
    go_wp2
    go_ret
    exact ⟨rfl, rfl⟩
  | true =>
    rw [ho] at HV
    clear ho
    cases hn : okK k with
    | false =>
      rw [hn] at HN
      clear hn
      go_enter Try.func48, Try.ntmps48
      go_wp2_with fail
      refine HV.out.mono ?_
      rintro e w' ⟨rfl, rfl⟩
      rw [show err true = 0 from rfl]
      go_wp2_with fail
      refine HN.out.mono ?_
      rintro e w' ⟨rfl, rfl⟩
      go_wp2
      go_ret
      exact ⟨rfl, by rw [Bool.and_false]; rfl⟩
    | true =>
      rw [hn] at HN
      clear hn
      cases hc : inW n 0 1000 with
      | false =>
        rw [hc] at HC
        clear hc
        go_enter Try.func48, Try.ntmps48
        go_wp2_with fail
        refine HV.out.mono ?_
        rintro e w' ⟨rfl, rfl⟩
        rw [show err true = 0 from rfl]
        go_wp2_with fail
        refine HN.out.mono ?_
        rintro e w' ⟨rfl, rfl⟩
        go_wp2_with fail
        refine HC.out.mono ?_
        rintro e w' ⟨rfl, rfl⟩
        go_wp2
        go_ret
        exact ⟨rfl, rfl⟩
      | true =>
        rw [hc] at HC
        clear hc
        go_enter Try.func48, Try.ntmps48
        go_wp2_with fail
        refine HV.out.mono ?_
        rintro e w' ⟨rfl, rfl⟩
        rw [show err true = 0 from rfl]
        go_wp2_with fail
        refine HN.out.mono ?_
        rintro e w' ⟨rfl, rfl⟩
        go_wp2_with fail
        refine HC.out.mono ?_
        rintro e w' ⟨rfl, rfl⟩
        go_wp2
        go_ret
        exact ⟨rfl, rfl⟩

set_option maxHeartbeats 1000000 in
theorem have_any (a b : Option Addr) (os ms : List Int) (ca cb : Nat) (k : Int) (w : World) (h : Ints w a os) (h2 : Ints w b ms) : Calls Try.prog 59 #[.slice a os.length ca, .slice b ms.length cb, .int .i64 k] w (ErrR w (okO os && okMs os ms && okK k)) := by
  have HV := hid (rvalidateO_any a os ca w h)
  have HN := hid (kindOK_any k w)
  have HC := hid (mealsOK_any a b os ms ca cb w h.len h2)
  clear h h2
  cases ho : okO os with
  | false =>
    rw [ho] at HV
    clear ho
    go_enter Try.func59, Try.ntmps59
    go_wp2_with fail
    refine HV.out.mono ?_
    rintro e w' ⟨rfl, rfl⟩
    rw [show err false = 1 from rfl]
    go_wp2
    go_ret
    exact ⟨rfl, rfl⟩
  | true =>
    rw [ho] at HV
    clear ho
    cases hn : okK k with
    | false =>
      rw [hn] at HN
      clear hn
      go_enter Try.func59, Try.ntmps59
      go_wp2_with fail
      refine HV.out.mono ?_
      rintro e w' ⟨rfl, rfl⟩
      rw [show err true = 0 from rfl]
      go_wp2_with fail
      refine HN.out.mono ?_
      rintro e w' ⟨rfl, rfl⟩
      go_wp2
      go_ret
      exact ⟨rfl, by rw [Bool.and_false]; rfl⟩
    | true =>
      rw [hn] at HN
      clear hn
      cases hc : okMs os ms with
      | false =>
        rw [hc] at HC
        clear hc
        go_enter Try.func59, Try.ntmps59
        go_wp2_with fail
        refine HV.out.mono ?_
        rintro e w' ⟨rfl, rfl⟩
        rw [show err true = 0 from rfl]
        go_wp2_with fail
        refine HN.out.mono ?_
        rintro e w' ⟨rfl, rfl⟩
        go_wp2_with fail
        refine HC.out.mono ?_
        rintro e w' ⟨rfl, rfl⟩
        go_wp2
        go_ret
        exact ⟨rfl, rfl⟩
      | true =>
        rw [hc] at HC
        clear hc
        go_enter Try.func59, Try.ntmps59
        go_wp2_with fail
        refine HV.out.mono ?_
        rintro e w' ⟨rfl, rfl⟩
        rw [show err true = 0 from rfl]
        go_wp2_with fail
        refine HN.out.mono ?_
        rintro e w' ⟨rfl, rfl⟩
        go_wp2_with fail
        refine HC.out.mono ?_
        rintro e w' ⟨rfl, rfl⟩
        go_wp2
        go_ret
        exact ⟨rfl, rfl⟩
end Go.Proofs.Ytnjaacmcdkiilaa
