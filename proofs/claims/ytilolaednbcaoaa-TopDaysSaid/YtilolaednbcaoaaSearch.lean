/- The library's Index, Contains and BinarySearch at lists of int. -/
import Derived.Test.YtilolaednbcaoaaValid
import Derived.Test.YtilolaednbcaoaaSearchM
set_option linter.unusedVariables false
namespace Go.Proofs.Ytilolaednbcaoaa
open Go.RowKit

set_option maxHeartbeats 400000 in
theorem index_at (b off : Nat) (cap : Nat) (xs : List Int) (v : Int) (w : World) (hm : xs.length ≤ 140737488355328)
  (hc : ∀ i, i < xs.length → w.cell? ⟨b, off + i, none⟩ = some (.int .i64 (xs[i]?.getD 0))) :
  Calls Try.prog 73 #[.slice (some ⟨b, off, none⟩) xs.length cap, .int .i64 v] w fun en w' => w = w' ∧ en = .returned (.int .i64 (idxL v xs 0)) := by
  go_enter Try.func73, Try.ntmps73
  go_wp2
  go_loop [8] (fun i => ∃ (k : Nat), k ≤ xs.length ∧ i = .int .i64 k ∧ Hid (idxL v xs 0 = idxL v (xs.drop k) k)) (fun i => xs.length - (intOf i).toNat)
  case atStart => exact ⟨0, Nat.zero_le _, rfl, rfl⟩
  case round =>
    obtain ⟨k, hk, rfl, HS⟩ := hrel
    by_cases hlt : k < xs.length
    · have g := hc k hlt
      have HD := hid (idxL_drop v xs k hlt)
      clear hc
      generalize xs[k]?.getD 0 = x at *
      by_cases he : v = x
      · have he' : (v == x) = true := by simp [he]
        have HE := hid he
        clear he
        go_wp2
        go_ret
        exact ⟨rfl, ret_int (by rw [HS.out, HD.out, if_pos HE.out])⟩
      · have he' : (v == x) = false := by simp [he]
        have HE := hid he
        clear he
        go_wp2
        go_round
        case rel => exact ⟨k + 1, by omega, by go_num, by unfold Hid; rw [HS.out, HD.out, if_neg HE.out]⟩
        case measure => simp [intOf]; omega
    · go_wp2
      go_ret
      exact ⟨rfl, ret_int (by rw [HS.out, List.drop_of_length_le (by omega)]; rfl)⟩

set_option maxHeartbeats 400000 in
theorem index_nil (a : Option Addr) (cap : Nat) (v : Int) (w : World) :
  Calls Try.prog 73 #[.slice a 0 cap, .int .i64 v] w fun en w' => w = w' ∧ en = .returned (.int .i64 (idxL v [] 0)) := by
  go_enter Try.func73, Try.ntmps73
  go_wp2
  refine wp_loop_rounds 1 ?_
  rw [rounds_succ]
  go_wp2
  go_ret
  exact ⟨rfl, rfl⟩

theorem index_any (a : Option Addr) (cap : Nat) (xs : List Int) (v : Int) (w : World) (h : Ints w a xs) :
  Calls Try.prog 73 #[.slice a xs.length cap, .int .i64 v] w fun en w' => w = w' ∧ en = .returned (.int .i64 (idxL v xs 0)) := by
  rcases h.at_ with rfl | ⟨b, off, rfl, hc⟩
  · exact index_nil a cap v w
  · exact index_at b off cap xs v w h.len hc

set_option maxHeartbeats 400000 in
theorem contains_any (a : Option Addr) (cap : Nat) (xs : List Int) (v : Int) (w : World) (h : Ints w a xs) :
  Calls Try.prog 67 #[.slice a xs.length cap, .int .i64 v] w fun en w' => w = w' ∧ en = .returned (.bool (memB v xs)) := by
  have hlo := idxL_lo v xs 0
  have HM := hid (idxL_mem v xs 0)
  go_enter Try.func67, Try.ntmps67
  go_wp2_with fail
  refine (index_any _ _ _ _ _ h).mono ?_
  rintro e w' ⟨rfl, rfl⟩
  go_wp2
  go_ret
  exact ⟨rfl, ret_bool (by rw [memB, decide_eq_decide]; exact HM.out)⟩

/-- The parts of a binary search: all below i are smaller, all from j on are not. -/
def BS (xs : List Int) (v : Int) (i j : Nat) : Prop :=
  (∀ k, k < i → xs[k]?.getD 0 < v) ∧ ∀ k, j ≤ k → k < xs.length → v ≤ xs[k]?.getD 0

set_option maxRecDepth 100000 in
set_option maxHeartbeats 1000000 in
theorem bsearch_at (b off : Nat) (cap : Nat) (xs : List Int) (v : Int) (w : World) (hm : xs.length ≤ 140737488355328) (HA : Hid (Asc xs))
  (hc : ∀ i, i < xs.length → w.cell? ⟨b, off + i, none⟩ = some (.int .i64 (xs[i]?.getD 0))) :
  Calls Try.prog 53 #[.slice (some ⟨b, off, none⟩) xs.length cap, .int .i64 v] w fun en w' => w = w' ∧ ∃ i : Nat, i ≤ xs.length ∧ BS xs v i i ∧ en = .returned (.tuple #[.int .i64 i, .bool (memB v xs)]) := by
  go_enter Try.func53, Try.ntmps53
  go_wp2
  go_loop [7, 8] (fun p q => ∃ (i j : Nat), i ≤ j ∧ j ≤ xs.length ∧ p = .int .i64 i ∧ q = .int .i64 j ∧ Hid (BS xs v i j)) (fun p q => (intOf q).toNat - (intOf p).toNat)
  case atStart => exact ⟨0, xs.length, Nat.zero_le _, Nat.le_refl _, rfl, rfl, ⟨fun k hk => by omega, fun k h1 h2 => by omega⟩⟩
  case round =>
    obtain ⟨i, j, hij, hj, rfl, rfl, HS⟩ := hrel
    by_cases hlt : i < j
    · have hmid : (i + j) / 2 < xs.length := by omega
      have g := hc ((i + j) / 2) hmid
      have HB1 := HS.out.1
      have HB2 := HS.out.2
      have HX := hid (show ∀ k, k ≤ (i + j) / 2 → xs[k]?.getD 0 ≤ xs[(i + j) / 2]?.getD 0 from fun k hk => by
        rcases Nat.lt_or_ge k ((i + j) / 2) with h | h
        · have := HA.out k _ h hmid; omega
        · obtain rfl : k = (i + j) / 2 := by omega
          omega)
      have HY := hid (show ∀ k, (i + j) / 2 ≤ k → k < xs.length → xs[(i + j) / 2]?.getD 0 ≤ xs[k]?.getD 0 from fun k hk hk2 => by
        rcases Nat.lt_or_ge ((i + j) / 2) k with h | h
        · have := HA.out _ _ h hk2; omega
        · obtain rfl : k = (i + j) / 2 := by omega
          omega)
      clear hc HA HB1 HB2
      generalize xs[(i + j) / 2]?.getD 0 = x at *
      by_cases hx : x < v
      · go_wp2
        go_round
        case rel => exact ⟨(i + j) / 2 + 1, j, by omega, by omega, by go_num, rfl, ⟨fun k hk => by have := HX.out k (by omega); omega, HS.out.2⟩⟩
        case measure => simp [intOf]; omega
      · have hx' : v ≤ x := by omega
        go_wp2
        go_round
        case rel => exact ⟨i, (i + j) / 2, by omega, by omega, rfl, by go_num, ⟨HS.out.1, fun k h1 h2 => by have := HY.out k h1 h2; omega⟩⟩
        case measure => simp [intOf]; omega
    · obtain rfl : i = j := by omega
      have hfin : i ≤ xs.length → BS xs v i i := fun _ => HS.out
      by_cases hn : i < xs.length
      · have g := hc i hn
        have HM := hid (show memB v xs = decide (xs[i]?.getD 0 = v) by
          rw [memB, decide_eq_decide]
          constructor
          · intro hv
            obtain ⟨k, hk, he⟩ := List.getElem_of_mem hv
            have hk' : xs[k]?.getD 0 = v := by simp [hk, he]
            have h1 := HS.out.1
            have h2 := HS.out.2 i (Nat.le_refl _) hn
            rcases Nat.lt_trichotomy k i with h | h | h
            · have := h1 k h; omega
            · subst h; exact hk'
            · have := HA.out _ _ h hk; omega
          · intro hv; rw [← hv]; exact getD_mem xs i hn)
        clear hc HA
        have HF := hid (hfin hj)
        clear hfin HS
        generalize xs[i]?.getD 0 = x at *
        by_cases he : x = v
        · have he' : (x == v) = true := by simp [he]
          have HE := hid he
          clear he
          go_wp2
          go_ret2
          exact ⟨rfl, i, by omega, HF.out, ret_ib rfl (by rw [HM.out, decide_eq_true HE.out])⟩
        · have he' : (x == v) = false := by simp [he]
          have HE := hid he
          clear he
          go_wp2
          go_ret2
          exact ⟨rfl, i, by omega, HF.out, ret_ib rfl (by rw [HM.out, decide_eq_false HE.out])⟩
      · have HM := hid (show memB v xs = false by
          rw [memB, decide_eq_false_iff_not]
          intro hv
          obtain ⟨k, hk, he⟩ := List.getElem_of_mem hv
          have := HS.out.1 k (by omega)
          simp [hk, he] at this)
        have HF := hid (hfin hj)
        clear hfin HS hc
        go_wp2
        go_ret2
        exact ⟨rfl, i, by omega, HF.out, ret_ib rfl (by rw [HM.out])⟩

set_option maxHeartbeats 400000 in
theorem bsearch_nil (a : Option Addr) (cap : Nat) (v : Int) (w : World) :
  Calls Try.prog 53 #[.slice a 0 cap, .int .i64 v] w fun en w' => w = w' ∧ en = .returned (.tuple #[.int .i64 0, .bool false]) := by
  go_enter Try.func53, Try.ntmps53
  go_wp2
  refine wp_loop_rounds 1 ?_
  rw [rounds_succ]
  go_wp2
  go_ret2
  exact ⟨rfl, rfl⟩

theorem bsearch_any (a : Option Addr) (cap : Nat) (xs : List Int) (v : Int) (w : World) (h : Ints w a xs) (HA : Asc xs) :
  Calls Try.prog 53 #[.slice a xs.length cap, .int .i64 v] w fun en w' => w = w' ∧ ∃ i : Nat, i ≤ xs.length ∧ BS xs v i i ∧ en = .returned (.tuple #[.int .i64 i, .bool (memB v xs)]) := by
  rcases h.at_ with rfl | ⟨b, off, rfl, hc⟩
  · exact (bsearch_nil a cap v w).mono fun e w' hh => ⟨hh.1, 0, Nat.le_refl _, ⟨fun k hk => by omega, fun k h1 h2 => by simp at h2⟩, hh.2⟩
  · exact bsearch_at b off cap xs v w h.len HA hc

end Go.Proofs.Ytilolaednbcaoaa
