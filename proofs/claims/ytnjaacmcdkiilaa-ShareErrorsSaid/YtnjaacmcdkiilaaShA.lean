/- The tests of arguments of package share, and the document's own. -/
import Derived.Test.YtnjaacmcdkiilaaRes
import Derived.Test.YtnjaacmcdkiilaaShM
set_option linter.unusedVariables false
namespace Go.Proofs.Ytnjaacmcdkiilaa
open Go.RowKit

def ErrR (w : World) (b : Bool) (en : Ending) (w' : World) : Prop := w = w' ∧ en = .returned (.int .i64 (err b))
def SaysR (w : World) (b : Bool) (en : Ending) (w' : World) : Prop := w = w' ∧ en = .returned (.bool b)

set_option maxHeartbeats 400000 in
theorem isWithin_any (n lo hi : Int) (w : World) : Calls Try.prog 70 #[.int .i64 n, .int .i64 lo, .int .i64 hi] w (SaysR w (inW n lo hi)) := by
  by_cases h1 : lo ≤ n
  · by_cases h2 : n ≤ hi
    · rw [show inW n lo hi = true by simp [inW, h1, h2]]
      go_enter Try.func70, Try.ntmps70
      go_wp2
      go_ret
      exact ⟨rfl, ret_bool (by simp)⟩
    · rw [show inW n lo hi = false by simp [inW, h2]]
      have h2' : hi < n := by omega
      clear h2
      go_enter Try.func70, Try.ntmps70
      go_wp2
      go_ret
      exact ⟨rfl, ret_bool (by simp; omega)⟩
  · rw [show inW n lo hi = false by simp [inW, h1]]
    have h1' : n < lo := by omega
    clear h1
    go_enter Try.func70, Try.ntmps70
    go_wp2
    go_ret
    exact ⟨rfl, rfl⟩

set_option maxHeartbeats 1000000 in
theorem areWithin_any (a : Option Addr) (l : List Int) (cap : Nat) (lo hi : Int) (w : World) (h : Ints w a l) : Calls Try.prog 50 #[.slice a l.length cap, .int .i64 lo, .int .i64 hi] w (SaysR w (allIn lo hi l)) := by
  have hlen := h.len
  have HH := hid h
  clear h
  go_enter Try.func50, Try.ntmps50
  go_wp2
  go_loop [11] (fun i => ∃ (k : Nat), k ≤ l.length ∧ i = .int .i64 k ∧ Hid (allIn lo hi l = allIn lo hi (l.drop k))) (fun i => l.length - (intOf i).toNat)
  case atStart => exact ⟨0, Nat.zero_le _, rfl, rfl⟩
  case round =>
    obtain ⟨k, hk, rfl, HS⟩ := hrel
    by_cases hlt : k < l.length
    · rcases HH.out.at_ with e | ⟨b, off, rfl, hc⟩
      · rw [e] at hlt; simp at hlt
      have g := hc k hlt
      have HD := hid (allIn_drop lo hi l k hlt)
      clear hc
      generalize l[k]?.getD 0 = x at *
      have HX := hid (isWithin_any x lo hi w)
      cases hx : inW x lo hi with
      | true =>
        rw [hx] at HX HD
        have HD := hid HD.out
        clear hx
        go_wp2_with fail
        refine HX.out.mono ?_
        rintro e w' ⟨rfl, rfl⟩
        go_wp2
        go_round
        case rel => exact ⟨k + 1, by omega, by go_num, by unfold Hid; rw [HS.out, HD.out]; rfl⟩
        case measure => simp [intOf]; omega
      | false =>
        rw [hx] at HX HD
        have HD := hid HD.out
        clear hx
        go_wp2_with fail
        refine HX.out.mono ?_
        rintro e w' ⟨rfl, rfl⟩
        go_wp2
        go_ret
        exact ⟨rfl, ret_bool (by rw [HS.out, HD.out]; rfl)⟩
    · go_wp2
      go_ret
      exact ⟨rfl, ret_bool (by rw [HS.out, List.drop_of_length_le (by omega)]; rfl)⟩

set_option maxHeartbeats 1000000 in
theorem validateO_any (a : Option Addr) (l : List Int) (cap : Nat) (w : World) (h : Ints w a l) : Calls Try.prog 21 #[.slice a l.length cap] w (ErrR w (okO l)) := by
  have hlen := h.len
  have HW := hid (areWithin_any a l cap 1 1000000 w h)
  clear h
  by_cases h0 : l.length = 0
  · have HS := hid (show okO l = false by simp [okO, h0])
    have h0' : (l.length : Int) = 0 := by omega
    clear h0
    go_enter Try.func21, Try.ntmps21
    go_wp2
    go_ret
    exact ⟨rfl, by rw [HS.out]; rfl⟩
  · by_cases h8 : 8 < l.length
    · have HS := hid (show okO l = false by simp [okO]; intro _ h; omega)
      have h8' : (8 : Int) < (l.length : Int) := by omega
      have h0' : ((l.length : Int) == 0) = false := by rw [beq_eq_false_iff_ne]; omega
      clear h0
      go_enter Try.func21, Try.ntmps21
      go_wp2
      go_ret
      exact ⟨rfl, by rw [HS.out]; rfl⟩
    · have HS := hid (show okO l = allIn 1 1000000 l by simp [okO, show 1 ≤ l.length ∧ l.length ≤ 8 by omega])
      have h8' : (l.length : Int) ≤ 8 := by omega
      have h0' : ((l.length : Int) == 0) = false := by rw [beq_eq_false_iff_ne]; omega
      clear h0 h8
      cases hx : allIn 1 1000000 l with
      | true =>
        rw [hx] at HS HW
        have HS := hid HS.out
        clear hx
        go_enter Try.func21, Try.ntmps21
        go_wp2_with fail
        refine HW.out.mono ?_
        rintro e w' ⟨rfl, rfl⟩
        go_wp2
        go_ret
        exact ⟨rfl, by rw [HS.out]; rfl⟩
      | false =>
        rw [hx] at HS HW
        have HS := hid HS.out
        clear hx
        go_enter Try.func21, Try.ntmps21
        go_wp2_with fail
        refine HW.out.mono ?_
        rintro e w' ⟨rfl, rfl⟩
        go_wp2
        go_ret
        exact ⟨rfl, by rw [HS.out]; rfl⟩

set_option maxHeartbeats 400000 in
theorem isKind_any (k : Int) (w : World) : Calls Try.prog 81 #[.int .i64 k] w (SaysR w (okK k)) := by
  by_cases h0 : k = 0
  · subst h0
    go_enter Try.func81, Try.ntmps81
    go_wp2
    go_ret
    exact ⟨rfl, rfl⟩
  · by_cases h1 : k = 1
    · subst h1
      go_enter Try.func81, Try.ntmps81
      go_wp2
      go_ret
      exact ⟨rfl, rfl⟩
    · by_cases h2 : k = 2
      · subst h2
        go_enter Try.func81, Try.ntmps81
        go_wp2
        go_ret
        exact ⟨rfl, rfl⟩
      · have HS := hid (show okK k = false by simp [okK, h0, h1, h2])
        have h0' : (k == 0) = false := by simp [h0]
        have h1' : (k == 1) = false := by simp [h1]
        have h2' : (k == 2) = false := by simp [h2]
        clear h0 h1 h2
        go_enter Try.func81, Try.ntmps81
        go_wp2
        go_ret
        exact ⟨rfl, ret_bool (by rw [HS.out])⟩
set_option maxHeartbeats 400000 in
theorem kindOK_any (k : Int) (w : World) : Calls Try.prog 82 #[.int .i64 k] w (SaysR w (okK k)) := by
  by_cases h0 : k = 0
  · subst h0
    go_enter Try.func82, Try.ntmps82
    go_wp2
    go_ret
    exact ⟨rfl, rfl⟩
  · by_cases h1 : k = 1
    · subst h1
      go_enter Try.func82, Try.ntmps82
      go_wp2
      go_ret
      exact ⟨rfl, rfl⟩
    · by_cases h2 : k = 2
      · subst h2
        go_enter Try.func82, Try.ntmps82
        go_wp2
        go_ret
        exact ⟨rfl, rfl⟩
      · have HS := hid (show okK k = false by simp [okK, h0, h1, h2])
        have h0' : (k == 0) = false := by simp [h0]
        have h1' : (k == 1) = false := by simp [h1]
        have h2' : (k == 2) = false := by simp [h2]
        clear h0 h1 h2
        go_enter Try.func82, Try.ntmps82
        go_wp2
        go_ret
        exact ⟨rfl, ret_bool (by rw [HS.out])⟩

set_option maxHeartbeats 400000 in
theorem countOK_any (n : Int) (w : World) : Calls Try.prog 72 #[.int .i64 n] w (SaysR w (inW n 0 1000)) := by
  by_cases h1 : 0 ≤ n
  · by_cases h2 : n ≤ 1000
    · rw [show inW n 0 1000 = true by simp [inW, h1, h2]]
      go_enter Try.func72, Try.ntmps72
      go_wp2
      go_ret
      exact ⟨rfl, ret_bool (by simp)⟩
    · rw [show inW n 0 1000 = false by simp [inW, h2]]
      have h2' : 1000 < n := by omega
      clear h2
      go_enter Try.func72, Try.ntmps72
      go_wp2
      go_ret
      exact ⟨rfl, ret_bool (by simp; omega)⟩
  · rw [show inW n 0 1000 = false by simp [inW, h1]]
    have h1' : n < 0 := by omega
    clear h1
    go_enter Try.func72, Try.ntmps72
    go_wp2
    go_ret
    exact ⟨rfl, rfl⟩

set_option maxHeartbeats 1000000 in
theorem rvalidateO_any (a : Option Addr) (l : List Int) (cap : Nat) (w : World) (h : Ints w a l) : Calls Try.prog 22 #[.slice a l.length cap] w (ErrR w (okO l)) := by
  have hlen := h.len
  by_cases h0 : l.length = 0
  · have HS := hid (show okO l = false by simp [okO, h0])
    have h0' : (l.length : Int) < 1 := by omega
    clear h0
    go_enter Try.func22, Try.ntmps22
    go_wp2
    go_ret
    exact ⟨rfl, by rw [HS.out]; rfl⟩
  · by_cases h8 : 8 < l.length
    · have HS := hid (show okO l = false by simp [okO]; intro _ h; omega)
      have h8' : (8 : Int) < (l.length : Int) := by omega
      clear h0
      go_enter Try.func22, Try.ntmps22
      go_wp2
      go_ret
      exact ⟨rfl, by rw [HS.out]; rfl⟩
    · have HS := hid (show okO l = allIn 1 1000000 l by simp [okO, show 1 ≤ l.length ∧ l.length ≤ 8 by omega])
      have h8' : (l.length : Int) ≤ 8 := by omega
      have h0' : (1 : Int) ≤ (l.length : Int) := by omega
      have HH := hid h
      clear h h0 h8
      go_enter Try.func22, Try.ntmps22
      go_wp2
      go_loop [3] (fun i => ∃ (k : Nat), k ≤ l.length ∧ i = .int .i64 k ∧ Hid (allIn 1 1000000 l = allIn 1 1000000 (l.drop k))) (fun i => l.length - (intOf i).toNat)
      case atStart => exact ⟨0, Nat.zero_le _, rfl, rfl⟩
      case round =>
        obtain ⟨k, hk, rfl, HT⟩ := hrel
        by_cases hlt : k < l.length
        · rcases HH.out.at_ with e | ⟨b, off, rfl, hc⟩
          · rw [e] at hlt; simp at hlt
          have g := hc k hlt
          have HD := hid (allIn_drop 1 1000000 l k hlt)
          clear hc
          generalize l[k]?.getD 0 = x at *
          by_cases hx : 1 ≤ x
          · by_cases hy : x ≤ 1000000
            · have HX := hid (show inW x 1 1000000 = true by simp [inW, hx, hy])
              go_wp2
              go_round
              case rel => exact ⟨k + 1, by omega, by go_num, by unfold Hid; rw [HT.out, HD.out, HX.out]; rfl⟩
              case measure => simp [intOf]; omega
            · have HX := hid (show inW x 1 1000000 = false by simp [inW, hy])
              have hy' : 1000000 < x := by omega
              clear hy
              go_wp2
              go_ret
              exact ⟨rfl, by rw [HS.out, HT.out, HD.out, HX.out]; rfl⟩
          · have HX := hid (show inW x 1 1000000 = false by simp [inW, hx])
            have hx' : x < 1 := by omega
            clear hx
            go_wp2
            go_ret
            exact ⟨rfl, by rw [HS.out, HT.out, HD.out, HX.out]; rfl⟩
        · go_wp2
          go_ret
          exact ⟨rfl, by rw [HS.out, HT.out, List.drop_of_length_le (by omega)]; rfl⟩

set_option maxHeartbeats 1000000 in
theorem mealsOK_any (a b : Option Addr) (os ms : List Int) (ca cb : Nat) (w : World) (ho : os.length ≤ 140737488355328) (h : Ints w b ms) : Calls Try.prog 90 #[.slice a os.length ca, .slice b ms.length cb] w (SaysR w (okMs os ms)) := by
  have hlen := h.len
  by_cases h0 : ms.length = os.length
  · have HS := hid (show okMs os ms = allIn 0 1000 ms by simp [okMs, h0])
    have HH := hid h
    rw [← h0]
    clear h h0
    go_enter Try.func90, Try.ntmps90
    go_wp2
    go_loop [5] (fun i => ∃ (k : Nat), k ≤ ms.length ∧ i = .int .i64 k ∧ Hid (allIn 0 1000 ms = allIn 0 1000 (ms.drop k))) (fun i => ms.length - (intOf i).toNat)
    case atStart => exact ⟨0, Nat.zero_le _, rfl, rfl⟩
    case round =>
      obtain ⟨k, hk, rfl, HT⟩ := hrel
      by_cases hlt : k < ms.length
      · rcases HH.out.at_ with e | ⟨b, off, rfl, hc⟩
        · rw [e] at hlt; simp at hlt
        have g := hc k hlt
        have HD := hid (allIn_drop 0 1000 ms k hlt)
        clear hc
        generalize ms[k]?.getD 0 = x at *
        have HX := hid (countOK_any x w)
        cases hx : inW x 0 1000 with
        | true =>
          rw [hx] at HX HD
          have HD := hid HD.out
          clear hx
          go_wp2_with fail
          refine HX.out.mono ?_
          rintro e w' ⟨rfl, rfl⟩
          go_wp2
          go_round
          case rel => exact ⟨k + 1, by omega, by go_num, by unfold Hid; rw [HT.out, HD.out]; rfl⟩
          case measure => simp [intOf]; omega
        | false =>
          rw [hx] at HX HD
          have HD := hid HD.out
          clear hx
          go_wp2_with fail
          refine HX.out.mono ?_
          rintro e w' ⟨rfl, rfl⟩
          go_wp2
          go_ret
          exact ⟨rfl, ret_bool (by rw [HS.out, HT.out, HD.out]; rfl)⟩
      · go_wp2
        go_ret
        exact ⟨rfl, ret_bool (by rw [HS.out, HT.out, List.drop_of_length_le (by omega)]; rfl)⟩
  · have HS := hid (show okMs os ms = false by simp [okMs, h0])
    have h0' : ((ms.length : Int) != (os.length : Int)) = true := by simp; omega
    clear h0
    go_enter Try.func90, Try.ntmps90
    go_wp2
    go_ret
    exact ⟨rfl, ret_bool (by rw [HS.out])⟩
end Go.Proofs.Ytnjaacmcdkiilaa
