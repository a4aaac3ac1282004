/- What all layers' texts use: kinds of results, and the document's own within, Has and IsSet. -/
import Derived.Test.YtdgleicpcjfnoaaRes
import Derived.Test.YtdgleicpcjfnoaaRefM
import Derived.Deep.RegionWith
set_option linter.unusedVariables false
namespace Go.Proofs.Ytdgleicpcjfnoaa
open Go.RowKit


set_option maxHeartbeats 400000 in
theorem within_yes (n lo hi : Int) (w : World) (h1 : lo ≤ n) (h2 : n ≤ hi) :
  Calls Try.prog 95 #[.int .i64 n, .int .i64 lo, .int .i64 hi] w fun en w' => w = w' ∧ en = .returned (.bool true) := by
  go_enter Try.func95, Try.ntmps95
  go_wp2
  go_ret
  exact ⟨rfl, ret_bool (by simp)⟩
set_option maxHeartbeats 400000 in
theorem within_low (n lo hi : Int) (w : World) (h1 : n < lo) :
  Calls Try.prog 95 #[.int .i64 n, .int .i64 lo, .int .i64 hi] w fun en w' => w = w' ∧ en = .returned (.bool false) := by
  go_enter Try.func95, Try.ntmps95
  go_wp2
  go_ret
  exact ⟨rfl, rfl⟩
set_option maxHeartbeats 400000 in
theorem within_high (n lo hi : Int) (w : World) (h1 : lo ≤ n) (h2 : hi < n) :
  Calls Try.prog 95 #[.int .i64 n, .int .i64 lo, .int .i64 hi] w fun en w' => w = w' ∧ en = .returned (.bool false) := by
  go_enter Try.func95, Try.ntmps95
  go_wp2
  go_ret
  exact ⟨rfl, ret_bool (by simp; omega)⟩
def inB (n lo hi : Int) : Bool := decide (lo ≤ n ∧ n ≤ hi)
theorem within_any (n lo hi : Int) (w : World) :
  Calls Try.prog 95 #[.int .i64 n, .int .i64 lo, .int .i64 hi] w fun en w' => w = w' ∧ en = .returned (.bool (inB n lo hi)) := by
  by_cases h1 : lo ≤ n
  · by_cases h2 : n ≤ hi
    · rw [show inB n lo hi = true by simp [inB, h1, h2]]; exact within_yes n lo hi w h1 h2
    · rw [show inB n lo hi = false by simp [inB, h2]]; exact within_high n lo hi w h1 (by omega)
  · rw [show inB n lo hi = false by simp [inB, h1]]; exact within_low n lo hi w (by omega)

def DrawB (w : World) (v : Bool) (en : Ending) (w' : World) : Prop := ∃ n, w' = w.drewN n ∧ en = .returned (.bool v)

set_option maxHeartbeats 400000 in
theorem has_at (b off : Nat) (cap : Nat) (xs : List Int) (v : Int) (w : World) (hm : xs.length ≤ 140737488355328)
  (hc : ∀ i, i < xs.length → w.cell? ⟨b, off + i, none⟩ = some (.int .i64 (xs[i]?.getD 0))) :
  Calls Try.prog 25 #[.slice (some ⟨b, off, none⟩) xs.length cap, .int .i64 v] w fun en w' => w = w' ∧ en = .returned (.bool (memB v xs)) := by
  go_enter Try.func25, Try.ntmps25
  go_wp2
  go_loop [5] (fun i => ∃ (k : Nat), k ≤ xs.length ∧ i = .int .i64 k ∧ Hid (memB v xs = memB v (xs.drop k))) (fun i => xs.length - (intOf i).toNat)
  case atStart => exact ⟨0, Nat.zero_le _, rfl, rfl⟩
  case round =>
    obtain ⟨k, hk, rfl, HS⟩ := hrel
    by_cases hlt : k < xs.length
    · have g := hc k hlt
      have HD := hid (memB_drop v xs k hlt)
      clear hc
      generalize xs[k]?.getD 0 = x at *
      by_cases he : x = v
      · have he' : (x == v) = true := by simp [he]
        have HE := hid he
        clear he
        go_wp2
        go_ret
        exact ⟨rfl, ret_bool (by rw [HS.out, HD.out, decide_eq_true HE.out]; rfl)⟩
      · have he' : (x == v) = false := by simp [he]
        have HE := hid he
        clear he
        go_wp2
        go_round
        case rel => exact ⟨k + 1, by omega, by go_num, by unfold Hid; rw [HS.out, HD.out, decide_eq_false HE.out]; rfl⟩
        case measure => simp [intOf]; omega
    · go_wp2
      go_ret
      exact ⟨rfl, ret_bool (by rw [HS.out, List.drop_of_length_le (by omega)]; rfl)⟩
set_option maxHeartbeats 400000 in
theorem has_nil (a : Option Addr) (cap : Nat) (v : Int) (w : World) :
  Calls Try.prog 25 #[.slice a 0 cap, .int .i64 v] w fun en w' => w = w' ∧ en = .returned (.bool (memB v [])) := by
  go_enter Try.func25, Try.ntmps25
  go_wp2
  refine wp_loop_rounds 1 ?_
  rw [rounds_succ]
  go_wp2
  go_ret
  exact ⟨rfl, rfl⟩
theorem has_any (a : Option Addr) (cap : Nat) (xs : List Int) (v : Int) (w : World) (h : Ints w a xs) :
  Calls Try.prog 25 #[.slice a xs.length cap, .int .i64 v] w fun en w' => w = w' ∧ en = .returned (.bool (memB v xs)) := by
  rcases h.at_ with rfl | ⟨b, off, rfl, hc⟩
  · exact has_nil a cap v w
  · exact has_at b off cap xs v w h.len hc

set_option maxRecDepth 100000 in
set_option maxHeartbeats 1000000 in
theorem risSet_at (b off : Nat) (cap : Nat) (xs : List Int) (e : Int) (w : World) (hm : xs.length ≤ 140737488355328)
  (hc : ∀ i, i < xs.length → w.cell? ⟨b, off + i, none⟩ = some (.int .i64 (xs[i]?.getD 0))) :
  Calls Try.prog 49 #[.slice (some ⟨b, off, none⟩) xs.length cap, .int .i64 e] w (DrawB w (isSetFrom 0 (e + 1) xs)) := by
  go_enter Try.func49, Try.ntmps49
  go_wp2
  go_loopw [5] (fun i wr => ∃ (k : Nat), k ≤ xs.length ∧ i = .int .i64 k ∧ Hid (isSetFrom 0 (e + 1) xs = isSetFrom (lastNext xs k) (e + 1) (xs.drop k) ∧ 0 ≤ lastNext xs k) ∧ Hid (∃ n, wr = w.drewN n)) (fun i _ => xs.length - (intOf i).toNat)
  case atStart => exact ⟨0, Nat.zero_le _, rfl, ⟨rfl, Int.le_refl _⟩, ⟨0, rfl⟩⟩
  case round =>
    obtain ⟨k, hk, rfl, HS, HW⟩ := hrel
    have hcr : ∀ i, i < xs.length → wr.cell? ⟨b, off + i, none⟩ = some (.int .i64 (xs[i]?.getD 0)) := fun i hi => by
      obtain ⟨n, e⟩ := HW.out; rw [e]; exact hc i hi
    clear hc
    by_cases hlt : k < xs.length
    · have g := hcr k hlt
      have HD := hid (isSetFrom_drop (lastNext xs k) (e + 1) xs k hlt)
      have HN := hid (show lastNext xs (k + 1) = xs[k]?.getD 0 + 1 from rfl)
      by_cases hk0 : k = 0
      · subst hk0
        clear hcr
        rw [Nat.add_zero] at g
        generalize xs[0]?.getD 0 = x at *
        cases h1 : inB x 0 e with
        | false =>
          have HX := hid (show x < lastNext xs 0 ∨ e + 1 ≤ x by show x < 0 ∨ e + 1 ≤ x; simp [inB] at h1; omega)
          go_wp2_with fail
          go_quiet ((go_at_call 95; exact Calls.quiet_of_same ((within_any _ _ _ _).mono fun _ _ h => ⟨h.2, h.1.symm⟩)))
          go_wp2
          go_ret
          obtain ⟨n, e⟩ := HW.out
          exact ⟨n + nq, by rw [e, World.drewN_drewN], ret_bool (by rw [HS.out.1, HD.out, if_pos HX.out])⟩
        | true =>
          have hx : 0 ≤ x ∧ x < e + 1 := by simp [inB] at h1; omega
          have HX := hid hx
          clear hx
          go_wp2_with fail
          go_quiet ((go_at_call 95; exact Calls.quiet_of_same ((within_any _ _ _ _).mono fun _ _ h => ⟨h.2, h.1.symm⟩)))
          go_wp2
          go_roundw
          case rel =>
            exact ⟨1, by omega, by go_num, ⟨by rw [HS.out.1, HD.out, HN.out, if_neg (by have := HX.out; show ¬ (x < 0 ∨ _); omega)], by rw [HN.out]; have := HX.out; omega⟩, by obtain ⟨n, e⟩ := HW.out; exact ⟨n + nq, by rw [e, World.drewN_drewN]⟩⟩
          case measure => simp [intOf]; omega
      · obtain ⟨j, rfl⟩ : ∃ j, k = j + 1 := ⟨k - 1, by omega⟩
        have g2 := hcr j (by omega)
        have HL := hid (show lastNext xs (j + 1) = xs[j]?.getD 0 + 1 from rfl)
        have hj : (0 : Int) < ((j + 1 : Nat) : Int) := by omega
        clear hcr
        generalize xs[j + 1]?.getD 0 = x at *
        generalize xs[j]?.getD 0 = y at *
        cases h1 : inB x 0 e with
        | false =>
          have HX := hid (show x < lastNext xs (j + 1) ∨ e + 1 ≤ x by have := HS.out.2; simp [inB] at h1; omega)
          go_wp2_with fail
          go_quiet ((go_at_call 95; exact Calls.quiet_of_same ((within_any _ _ _ _).mono fun _ _ h => ⟨h.2, h.1.symm⟩)))
          go_wp2
          go_ret
          obtain ⟨n, e⟩ := HW.out
          exact ⟨n + nq, by rw [e, World.drewN_drewN], ret_bool (by rw [HS.out.1, HD.out, if_pos HX.out])⟩
        | true =>
          cases h2 : decide (x ≤ y) with
          | true =>
            have HX := hid (show x < lastNext xs (j + 1) ∨ e + 1 ≤ x by have := HL.out; simp at h2; omega)
            go_wp2_with fail
            go_quiet ((go_at_call 95; exact Calls.quiet_of_same ((within_any _ _ _ _).mono fun _ _ h => ⟨h.2, h.1.symm⟩)))
            go_wp2
            go_ret
            obtain ⟨n, e⟩ := HW.out
            exact ⟨n + nq, by rw [e, World.drewN_drewN], ret_bool (by rw [HS.out.1, HD.out, if_pos HX.out])⟩
          | false =>
            have HX := hid (show ¬ (x < lastNext xs (j + 1) ∨ e + 1 ≤ x) ∧ 0 ≤ x by have := HL.out; simp at h2; simp [inB] at h1; omega)
            go_wp2_with fail
            go_quiet ((go_at_call 95; exact Calls.quiet_of_same ((within_any _ _ _ _).mono fun _ _ h => ⟨h.2, h.1.symm⟩)))
            go_wp2
            go_roundw
            case rel =>
              exact ⟨j + 2, by omega, by go_num, ⟨by rw [HS.out.1, HD.out, HN.out, if_neg HX.out.1], by rw [HN.out]; have := HX.out.2; omega⟩, by obtain ⟨n, e⟩ := HW.out; exact ⟨n + nq, by rw [e, World.drewN_drewN]⟩⟩
            case measure => simp [intOf]; omega
    · go_wp2
      go_ret
      obtain ⟨n, e⟩ := HW.out
      exact ⟨n, e, ret_bool (by rw [HS.out.1, List.drop_of_length_le (by omega)]; rfl)⟩

set_option maxHeartbeats 400000 in
theorem risSet_nil (a : Option Addr) (cap : Nat) (e : Int) (w : World) :
  Calls Try.prog 49 #[.slice a 0 cap, .int .i64 e] w (DrawB w true) := by
  go_enter Try.func49, Try.ntmps49
  go_wp2
  refine wp_loop_rounds 1 ?_
  rw [rounds_succ]
  go_wp2
  go_ret
  exact ⟨0, rfl, rfl⟩
theorem risSet_any (a : Option Addr) (cap : Nat) (xs : List Int) (e : Int) (w : World) (h : Ints w a xs) :
  Calls Try.prog 49 #[.slice a xs.length cap, .int .i64 e] w (DrawB w (isSetFrom 0 (e + 1) xs)) := by
  rcases h.at_ with rfl | ⟨b, off, rfl, hc⟩
  · exact risSet_nil a cap e w
  · exact risSet_at b off cap xs e w h.len hc


end Go.Proofs.Ytdgleicpcjfnoaa
