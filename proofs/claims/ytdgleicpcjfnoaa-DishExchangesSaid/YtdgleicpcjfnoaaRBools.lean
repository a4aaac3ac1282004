/- Lists of marks in memory; the document's own marks, places, all. -/
import Derived.Test.YtdgleicpcjfnoaaCommon
import Derived.Test.YtdgleicpcjfnoaaRowsI
import Derived.Test.YtdgleicpcjfnoaaNumbers
import Derived.Test.YtdgleicpcjfnoaaProofN
import Derived.Laws.OwnMore
import Derived.OwnWalk
set_option linter.unusedVariables false
namespace Go.Proofs.Ytdgleicpcjfnoaa
open Go.RowKit

theorem bool_info : (Try.prog.info? 4).map (fun i => (i.zero, i.size, i.bytes)) = some (some (.bool false), 1, 1) := by kernel_rfl
/-- A slice of n marks that reads as a set. -/
structure BoolsAt (w : World) (a : Option Addr) (n M : Nat) : Prop where
  len : n ≤ 140737488355328
  at_ : n = 0 ∨ ∃ b off, a = some ⟨b, off, none⟩ ∧ ∀ i, i < n → w.cell? ⟨b, off + i, none⟩ = some (.bool (M.testBit i))
theorem BoolsAt.below {w w' : World} {a : Option Addr} {n M : Nat} (h : BoolsAt w a n M) (hb : Below w.heap.size w w') : BoolsAt w' a n M := by
  refine ⟨h.len, ?_⟩
  rcases h.at_ with e | ⟨b, off, ha, hc⟩
  · exact .inl e
  · exact .inr ⟨b, off, ha, fun i hi => by rw [hb.cell (cell_lt (hc i hi))]; exact hc i hi⟩
def bcells (M n : Nat) : List Value := (boolsOf M n).map Value.bool
theorem bcells_len (M n : Nat) : (bcells M n).length = n := by simp [bcells, boolsOf_len]
theorem bcells_at (M n i : Nat) (h : i < n) : (bcells M n)[i]? = some (.bool (M.testBit i)) := by simp [bcells, boolsOf_at M n i h]
theorem bcells_set (M n x : Nat) : (bcells M n).set x (.bool true) = bcells (M ||| 2 ^ x) n := by rw [bcells, ← List.map_set, boolsOf_set]; rfl
theorem bcells_zero (n : Nat) : (madeCells (Value.bool false).cells (n * 1)).toList = bcells 0 n := by
  rw [Nat.mul_one, show (Value.bool false).cells = #[Value.bool false] from rfl, toList_madeCells_one, bcells, boolsOf_zero, List.map_replicate]
/-- Marks of the call's own, in the block g. -/
def OwnB (w : World) (base g n M : Nat) (c : Nat) : Prop := w.ownsRow base 4 1 (.slice (some ⟨g, 0, none⟩) n c) n (bcells M n)
theorem OwnB.at_ {w : World} {base g n M c : Nat} (h : OwnB w base g n M c) (hn : n ≤ 140737488355328) : BoolsAt w (some ⟨g, 0, none⟩) n M := by
  refine ⟨hn, .inr ⟨g, 0, rfl, fun i hi => ?_⟩⟩
  unfold OwnB at h
  rw [Nat.zero_add, h.cellAt _ (by omega), bcells_at M n i hi]
theorem OwnB.below {w w' : World} {base g n M c : Nat} (h : OwnB w base g n M c) (hb : Below w.heap.size w w') : OwnB w' base g n M c := own_below h hb
theorem OwnB.base {w : World} {base g n M c : Nat} (h : OwnB w base g n M c) : base ≤ g ∧ g < w.heap.size := h.lt g rfl
theorem OwnB.set {w : World} {base g n M c : Nat} (h : OwnB w base g n M c) (x : Nat) : OwnB (w.setCell ⟨g, x, none⟩ (.bool true)) base g n (M ||| 2 ^ x) c := by
  unfold OwnB
  rw [← bcells_set]
  exact (h.stored x _).1
def BoolsR (w : World) (n M : Nat) (en : Ending) (w' : World) : Prop := Below w.heap.size w w' ∧ ∃ g c, en = .returned (.slice (some ⟨g, 0, none⟩) n c) ∧ OwnB w' w.heap.size g n M c

theorem make_bools (n : Nat) (hn : n ≤ 1000000) : ∀ w : World, (Instr.makeSlice 89 (.int .i64 (n : Int)) (.int .i64 (n : Int))).run Try.prog w = .ok (.slice (some ⟨w.heap.size, 0, none⟩) n n) (w.alloc (.cells (bcells 0 n).toArray 4)) := by
  obtain ⟨i0, hi, hz0, hz1, hz2⟩ := info_parts bool_info
  intro w
  have hr := run_make (P := Try.prog) w 89 4 i0 (.bool false) Try.underlying89 hi hz0 .i64 .i64 n n (by omega) (by omega) (by rw [hz2]; omega) (by omega)
  simp only [Int.toNat_natCast, hz1, Nat.mul_one] at hr
  have e : madeCells (Value.bool false).cells n = (bcells 0 n).toArray := Array.ext' (by have := bcells_zero n; rw [Nat.mul_one] at this; simpa using this)
  rw [e] at hr
  exact hr
theorem own_made (w : World) (n base : Nat) (hn : n ≤ 1000000) (hb : base ≤ w.heap.size) : OwnB (w.alloc (.cells (bcells 0 n).toArray 4)) base w.heap.size n 0 n := by
  have := World.ownsRow_lit (e := 4) (size := 1) w (bcells 0 n).toArray n hb (by unfold maxLen; omega) (by simp [bcells_len])
  exact this

set_option maxRecDepth 100000 in
set_option maxHeartbeats 2000000 in
theorem marks_any (a : Option Addr) (xs : List Int) (cap n : Nat) (w : World) (h : Ints w a xs) (hs : Small n xs) (hn : n ≤ 64) :
  Calls Try.prog 63 #[.slice a xs.length cap, .int .i64 n] w (BoolsR w n (maskL xs)) := by
  have hlen := h.len
  have HS := hid hs
  have HH := hid h
  have HMk := make_bools n (by omega)
  have HO0 := hid (own_made w n w.heap.size (by omega) (Nat.le_refl _))
  clear hs h
  go_enter Try.func63, Try.ntmps63
  go_wp2
  go_loopw [6] (fun i wr => ∃ k : Nat, k ≤ xs.length ∧ i = .int .i64 k ∧ OwnB wr w.heap.size w.heap.size n (maskL (xs.take k)) n ∧ Below w.heap.size w wr) (fun i _ => xs.length - (intOf i).toNat)
  case atStart => exact ⟨0, Nat.zero_le _, rfl, HO0.out, (Below.refl _ _).alloc (Nat.le_refl _) _⟩
  case round =>
    obtain ⟨k, hk, rfl, hown, hB⟩ := hrel
    by_cases hlt : k < xs.length
    · rcases (HH.out.below hB).at_ with e | ⟨b, off, rfl, hc⟩
      · rw [e] at hlt; simp at hlt
      have c0 := hc k hlt
      have hx := HS.out _ (getD_mem xs k hlt)
      have HT := hid (maskL_take xs k hlt)
      clear hc
      generalize xs[k]?.getD 0 = x at *
      generalize maskL (xs.take k) = M at *
      obtain ⟨m, rfl⟩ := Int.eq_ofNat_of_zero_le hx.1
      have hmn : m < n := by omega
      have d0 : wr.cell? ⟨w.heap.size, m, none⟩ = some (.bool (M.testBit m)) := by
        unfold OwnB at hown
        rw [hown.cellAt _ (by omega), bcells_at M n m hmn]
      have f0 : wr.frozen? ⟨w.heap.size, m, none⟩ = false := by unfold OwnB at hown; exact hown.frozenAt m
      go_wp2
      go_roundw
      case rel => exact ⟨k + 1, by omega, by go_num, by rw [HT.out]; exact hown.set m, hB.setCell (by simp) _⟩
      case measure => simp [intOf]; omega
    · obtain rfl : k = xs.length := by omega
      rw [List.take_length] at hown
      go_wp2
      go_ret
      exact ⟨hB, _, _, rfl, hown⟩

set_option maxRecDepth 100000 in
set_option maxHeartbeats 2000000 in
theorem places_any (a : Option Addr) (n M cap : Nat) (w : World) (h : BoolsAt w a n M) (hn : n ≤ 64) :
  Calls Try.prog 56 #[.slice a n cap] w (OwnRs w w.heap.size (bitsTo M n)) := by
  obtain ⟨i0, hi, hz0, hz1, hz2⟩ := info_parts int_info
  have HH := hid h
  clear h
  go_enter Try.func56, Try.ntmps56
  go_wp2
  go_loopw [3, 4] (fun o i wr => ∃ j : Nat, j ≤ n ∧ i = .int .i64 j ∧ wr.ownsRow w.heap.size 3 1 o (bitsTo M j).length ((bitsTo M j).map (Value.int .i64)) ∧ Below w.heap.size w wr) (fun _ i _ => n - (intOf i).toNat)
  case atStart => exact ⟨0, Nat.zero_le _, rfl, ⟨rfl, .inl ⟨rfl, rfl⟩⟩, Below.refl _ _⟩
  case round =>
    obtain ⟨j, hj, rfl, hown, hB⟩ := hrel
    by_cases hlt : j < n
    · have hlen := bitsTo_len M j
      rcases (HH.out.below hB).at_ with e | ⟨b, off, rfl, hc⟩
      · omega
      have c0 := hc j hlt
      clear hc
      cases hb : M.testBit j with
      | true =>
        have HT := hid (show bitsTo M (j + 1) = bitsTo M j ++ [(j : Int)] by rw [bitsTo, if_pos hb])
        generalize bitsTo M j = pre at *
        rw [hb] at c0
        clear hb
        go_wp2_with (at_builtin; refine wpList_append_own _ rfl _ _ 32 rfl w.heap.size 3 i0 (.int .i64 0) 1 8 Try.underlying32 hi hz0 hz1 hz2 rfl (by decide) _ _ _ rfl (hown.alloc _) ⟨wr.heap.size, 0, none⟩ 1 1 [.int .i64 (j : Int)] rfl rfl ?c1 ?c2 ?c3 ?c4 ?c5 ?_)
        case c1 => exact cell_one_new _ _ _
        case c2 => simp [Value.oneCell']
        case c3 => unfold maxLen; omega
        case c4 => omega
        case c5 => have := hB.size; simp; omega
        intro v' w4 hown2 hgrow _
        have p4 := (hB.alloc hB.size _).grown hgrow (by have := hB.size; simp; omega) (fun q hq => by have := (hown.lt q hq).1; omega)
        clear hgrow hown
        go_wp2
        go_roundw
        case rel => exact ⟨j + 1, by omega, by go_num, by rw [HT.out]; simpa using hown2, p4⟩
        case measure => simp [intOf]; omega
      | false =>
        have HT := hid (show bitsTo M (j + 1) = bitsTo M j by rw [bitsTo, if_neg (by simp [hb])]; simp)
        generalize bitsTo M j = pre at *
        rw [hb] at c0
        clear hb
        go_wp2
        go_roundw
        case rel => exact ⟨j + 1, by omega, by go_num, by rw [HT.out]; exact hown, hB⟩
        case measure => simp [intOf]; omega
    · obtain rfl : j = n := by omega
      have hown' : Own wr w.heap.size u3 (bitsTo M j) := hown
      clear hown
      obtain ⟨A, c, rfl⟩ : ∃ A c, u3 = .slice A (bitsTo M j).length c := by
        rcases hown'.2 with ⟨hv, hn⟩ | ⟨g, c, cur, hv, _⟩
        · exact ⟨none, 0, by rw [hv, hn]⟩
        · exact ⟨_, _, hv⟩
      go_wp2
      go_ret
      exact ⟨hB, A, c, rfl, hown'⟩

set_option maxRecDepth 100000 in
set_option maxHeartbeats 2000000 in
theorem all_any (a : Option Addr) (n M c1 : Nat) (b : Option Addr) (xs : List Int) (c2 : Nat) (w : World) (h : BoolsAt w a n M) (hx : Ints w b xs) (hs : Small n xs) (hn : n ≤ 64) :
  Calls Try.prog 77 #[.slice a n c1, .slice b xs.length c2] w fun en w' => w = w' ∧ en = .returned (.bool (allM M xs)) := by
  have hlen := hx.len
  have HH := hid h
  have HX := hid hx
  have HS := hid hs
  clear h hx hs
  go_enter Try.func77, Try.ntmps77
  go_wp2
  go_loop [5] (fun i => ∃ k : Nat, k ≤ xs.length ∧ i = .int .i64 k ∧ Hid (allM M xs = allM M (xs.drop k))) (fun i => xs.length - (intOf i).toNat)
  case atStart => exact ⟨0, Nat.zero_le _, rfl, rfl⟩
  case round =>
    obtain ⟨k, hk, rfl, HA⟩ := hrel
    by_cases hlt : k < xs.length
    · rcases HX.out.at_ with e | ⟨bb, off, rfl, hc⟩
      · rw [e] at hlt; simp at hlt
      have c0 := hc k hlt
      have hb := HS.out _ (getD_mem xs k hlt)
      have HD := hid (allM_drop M xs k hlt)
      clear hc
      generalize xs[k]?.getD 0 = x at *
      obtain ⟨m, rfl⟩ := Int.eq_ofNat_of_zero_le hb.1
      rw [Int.toNat_natCast] at HD
      rcases HH.out.at_ with e | ⟨ba, offa, rfl, hca⟩
      · omega
      have d0 := hca m (by omega)
      have hmn : m < n := by omega
      clear hca
      cases ht : M.testBit m with
      | true =>
        rw [ht] at d0 HD
        clear ht
        go_wp2
        go_round
        case rel => exact ⟨k + 1, by omega, by go_num, by unfold Hid; rw [HA.out, HD.out]; rfl⟩
        case measure => simp [intOf]; omega
      | false =>
        rw [ht] at d0 HD
        clear ht
        go_wp2
        go_ret
        exact ⟨rfl, ret_bool (by rw [HA.out, HD.out]; rfl)⟩
    · go_wp2
      go_ret
      exact ⟨rfl, ret_bool (by rw [HA.out, List.drop_of_length_le (by omega)]; rfl)⟩
end Go.Proofs.Ytdgleicpcjfnoaa
