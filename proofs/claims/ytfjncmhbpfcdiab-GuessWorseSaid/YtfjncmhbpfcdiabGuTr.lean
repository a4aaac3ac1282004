/- The document's own sequences of wins and losses. -/
import Derived.Test.YtfjncmhbpfcdiabGuT
import Derived.Laws.MakeOwn
set_option linter.unusedVariables false
namespace Go.Proofs.Ytfjncmhbpfcdiab
open Go.RowKit

/-- A row of natural numbers. -/
def rowF (f : Nat → Nat) (n : Nat) : List Int := (List.range n).map fun j => ((f j : Nat) : Int)
theorem rowF_len (f : Nat → Nat) (n : Nat) : (rowF f n).length = n := by simp [rowF]
theorem rowF_at (f : Nat → Nat) (n j : Nat) (h : j < n) : (rowF f n)[j]?.getD 0 = (f j : Int) := by
  unfold rowF; rw [List.getElem?_map, List.getElem?_range h]; rfl
theorem rowF_congr (f g : Nat → Nat) (n : Nat) (h : ∀ j, j < n → f j = g j) : rowF f n = rowF g n := by
  unfold rowF
  refine List.map_congr_left fun j hj => ?_
  rw [h j (List.mem_range.1 hj)]
def updR (f : Nat → Nat) (k x : Nat) : Nat → Nat := fun i => if i = k then x else f i
theorem rowF_set (f : Nat → Nat) (n k x : Nat) : (rowF f n).set k (x : Int) = rowF (updR f k x) n := by
  apply List.ext_getElem?
  intro j
  rw [List.getElem?_set]
  unfold rowF
  rw [List.getElem?_map, List.getElem?_map, List.length_map, List.length_range]
  by_cases hj : j < n
  · rw [List.getElem?_range hj]
    by_cases hk : k = j
    · subst hk; simp [updR, hj]
    · rw [if_neg hk]; simp [updR, show ¬ j = k from fun e => hk e.symm]
  · have hn : (List.range n)[j]? = none := List.getElem?_eq_none (by simp; omega)
    rw [hn]
    by_cases hk : k = j
    · subst hk; simp [hj]
    · rw [if_neg hk]; rfl
/-- The next row, when the first k numbers of the row before were added. -/
def prt (i k j : Nat) : Nat := (if j < k then chs i j else 0) + if 1 ≤ j ∧ j ≤ k then chs i (j - 1) else 0
def mid (i k j : Nat) : Nat := if j = k then chs i k + prt i k k else prt i k j
theorem prt_zero (i j : Nat) : prt i 0 j = 0 := by unfold prt; simp; intro h; omega
theorem prt_full (i j : Nat) (h : j < i + 2) : prt i (i + 1) j = chs (i + 1) j := by
  unfold prt
  cases j with
  | zero => simp [chs_zero]
  | succ j =>
    rw [if_pos (show 1 ≤ j + 1 ∧ j + 1 ≤ i + 1 by omega), Nat.add_sub_cancel, show chs (i + 1) (j + 1) = chs i j + chs i (j + 1) from rfl]
    split
    · omega
    · rw [chs_out i (j + 1) (by omega)]; omega
theorem mid_eq (i k : Nat) : updR (prt i k) k (prt i k k + chs i k) = mid i k := by
  funext j; unfold updR mid
  by_cases h : j = k
  · rw [if_pos h, if_pos h, Nat.add_comm]
  · rw [if_neg h, if_neg h]
theorem prt_next (i k : Nat) : updR (mid i k) (k + 1) (mid i k (k + 1) + chs i k) = prt i (k + 1) := by
  funext j
  unfold updR mid prt
  by_cases h : j = k + 1
  · subst h
    simp [show ¬ k + 1 < k by omega]
    intro h; omega
  · by_cases h2 : j = k
    · subst h2
      by_cases h3 : 1 ≤ j <;> simp [h3]
    · by_cases h3 : j < k
      · simp [h, h2, h3, show j < k + 1 by omega, show j ≤ k by omega, show j ≤ k + 1 by omega]
      · simp [h, h2, h3, show ¬ j < k + 1 by omega, show ¬ j ≤ k by omega, show ¬ j ≤ k + 1 by omega]
theorem prt_bd (i k j : Nat) (h : i ≤ 40) : prt i k j ≤ 2199023255552 := by
  unfold prt
  have h1 := chs_bd i j h
  have h2 := chs_bd i (j - 1) h
  split <;> split <;> omega
theorem mid_bd (i k j : Nat) (h : i ≤ 40) : mid i k j ≤ 3298534883328 := by
  unfold mid
  have h1 := chs_bd i k h
  have h2 := prt_bd i k k h
  have h3 := prt_bd i k j h
  split <;> omega
theorem make_intsT (n : Nat) (hn : n ≤ 1000000) : ∀ w : World, (Instr.makeSlice 32 (.int .i64 (n : Int)) (.int .i64 (n : Int))).run Try.prog w = .ok (.slice (some ⟨w.heap.size, 0, none⟩) n n) (w.alloc (.cells ((rowF (fun _ => 0) n).map (Value.int .i64)).toArray 3)) := by
  obtain ⟨i0, hi, hz0, hz1, hz2⟩ := info_parts int_info
  intro w
  have hr := run_make (P := Try.prog) w 32 3 i0 (.int .i64 0) Try.underlying32 hi hz0 .i64 .i64 n n (by omega) (by omega) (by rw [hz2]; omega) (by omega)
  simp only [Int.toNat_natCast, hz1, Nat.mul_one] at hr
  have e : madeCells (Value.int .i64 0).cells n = ((rowF (fun _ => 0) n).map (Value.int .i64)).toArray := by
    apply Array.ext'
    rw [show (Value.int .i64 0).cells = #[Value.int .i64 0] from rfl, toList_madeCells_one]
    simp only [rowF, List.map_map]
    apply List.ext_getElem
    · simp
    · intro k h1 h2; simp
  rw [e] at hr
  exact hr
theorem own_madeT (w : World) (n base : Nat) (hn : n ≤ 1000000) (hb : base ≤ w.heap.size) : (w.alloc (.cells ((rowF (fun _ => 0) n).map (Value.int .i64)).toArray 3)).ownsRow base 3 1 (.slice (some ⟨w.heap.size, 0, none⟩) n n) n ((rowF (fun _ => 0) n).map (Value.int .i64)) := by
  have := World.ownsRow_lit (e := 3) (size := 1) w ((rowF (fun _ => 0) n).map (Value.int .i64)).toArray n hb (by unfold maxLen; omega) (by simp [rowF_len])
  simpa using this
theorem own_intsT {w : World} {base g c n : Nat} {f : Nat → Nat} (h : w.ownsRow base 3 1 (.slice (some ⟨g, 0, none⟩) n c) n ((rowF f n).map (Value.int .i64))) (hn : n ≤ 1000) (hf : ∀ j, f j ≤ 3298534883328) : Ints w (some ⟨g, 0, none⟩) (rowF f n) := by
  refine ⟨by rw [rowF_len]; omega, .inr ⟨g, 0, rfl, fun j hj => ?_⟩, fun x hx => ?_⟩
  · rw [rowF_len] at hj
    have := h.cellAt j (by omega)
    rw [Nat.zero_add, this, List.getElem?_map, rowF_at f n j hj]
    unfold rowF
    rw [List.getElem?_map, List.getElem?_range hj]; rfl
  · unfold rowF at hx
    obtain ⟨j, _, rfl⟩ := List.mem_map.1 hx
    have := hf j
    omega
theorem own_atT {w : World} {base g c n : Nat} {f : Nat → Nat} (h : w.ownsRow base 3 1 (.slice (some ⟨g, 0, none⟩) n c) n ((rowF f n).map (Value.int .i64))) (j : Nat) (hj : j < n) : w.cell? ⟨g, j, none⟩ = some (.int .i64 (f j : Int)) := by
  have := h.cellAt j (by omega)
  rw [this, List.getElem?_map]
  unfold rowF
  rw [List.getElem?_map, List.getElem?_range hj]; rfl
theorem own_setT {w : World} {base g c n : Nat} {f : Nat → Nat} (h : w.ownsRow base 3 1 (.slice (some ⟨g, 0, none⟩) n c) n ((rowF f n).map (Value.int .i64))) (k x : Nat) : (w.setCell ⟨g, k, none⟩ (.int .i64 (x : Int))).ownsRow base 3 1 (.slice (some ⟨g, 0, none⟩) n c) n ((rowF (updR f k x) n).map (Value.int .i64)) := by
  have := (h.stored k (.int .i64 (x : Int))).1
  rw [← List.map_set, rowF_set] at this
  exact this
theorem tailTo_small (n q m : Nat) (h : m ≤ q) : tailTo n q m = 0 := by
  induction m with
  | zero => rfl
  | succ m ih => rw [tailTo, ih (by omega), if_neg (by omega)]
set_option maxRecDepth 100000 in
set_option maxHeartbeats 4000000 in
theorem grTail_any (n q : Nat) (hn : n ≤ 40) (hq : q ≤ n) (w : World) : Calls Try.prog 15 #[.int .i64 (n : Int), .int .i64 (q : Int)] w (IntR w (tailN n q : Nat)) := by
  have HI0 : Hid (Ints (w.alloc (.cells #[.int .i64 1] 3)) (some ⟨w.heap.size, 0, none⟩) (rowF (chs 0) 1)) := ⟨by simp [rowF], .inr ⟨w.heap.size, 0, rfl, fun j hj => by
    obtain rfl : j = 0 := by rw [rowF_len] at hj; omega
    rw [rowF_at _ _ _ (by omega), chs_zero]; go_simp⟩, by simp [rowF, chs_zero]⟩
  have HB0 := hid ((Below.refl w.heap.size w).alloc (Nat.le_refl _) (.cells #[.int .i64 1] 3))
  have HCb := hid (fun i j hi => chs_bd i j hi)
  have HTt := hid (show tailN n q = tailTo n q (n + 1) from rfl)
  have HTs := hid (show ∀ j, tailTo n q (j + 1) = tailTo n q j + if q ≤ j then chs n j else 0 from fun j => rfl)
  have HTb := hid (fun j => tailTo_bd n q j hn)
  have HT0 := hid (tailTo_small n q q (Nat.le_refl _))
  generalize hw0 : w.alloc (.cells #[.int .i64 1] 3) = w0 at *
  go_enter Try.func15, Try.ntmps15
  go_wp2
  clear hw0
  go_loopw [5, 6] (fun v t wr => ∃ (i : Nat) (A : Option Addr) (c : Nat), i ≤ n ∧ v = .slice A (i + 1) c ∧ t = .int .i64 i ∧ Hid (Ints wr A (rowF (chs i) (i + 1))) ∧ Hid (Below w.heap.size w wr)) (fun _ t _ => n - (intOf t).toNat)
  case atStart => exact ⟨0, _, _, Nat.zero_le _, rfl, rfl, HI0, HB0⟩
  case round =>
    obtain ⟨i, A, c, hi, rfl, rfl, HI, HB⟩ := hrel
    clear HI0 HB0
    generalize hwo : wr = wo at *
    clear hwo
    by_cases hlt : i < n
    · have HMk := make_intsT (i + 2) (by omega)
      rw [show ((i + 2 : Nat) : Int) = (i : Int) + 1 + 1 by omega] at HMk
      have HO0 := hid (own_madeT wo (i + 2) wo.heap.size (by omega) (Nat.le_refl _))
      have HZ := hid (show rowF (fun _ => 0) (i + 2) = rowF (prt i 0) (i + 2) from rowF_congr _ _ _ fun j _ => (prt_zero i j).symm)
      rw [HZ.out] at HO0 HMk
      go_wp2
      go_loopw [8] (fun t wt => ∃ (k : Nat), k ≤ i + 1 ∧ t = .int .i64 k ∧ Hid (wt.ownsRow wo.heap.size 3 1 (.slice (some ⟨wo.heap.size, 0, none⟩) (i + 2) (i + 2)) (i + 2) ((rowF (prt i k) (i + 2)).map (Value.int .i64))) ∧ Hid (Below wo.heap.size wo wt)) (fun t _ => i + 1 - (intOf t).toNat)
      case atStart => exact ⟨0, Nat.zero_le _, rfl, HO0, (Below.refl _ _).alloc (Nat.le_refl _) _⟩
      case round =>
        obtain ⟨k, hk, rfl, HO, HBt⟩ := hrel
        clear HMk HO0 HZ
        by_cases hkt : k < i + 1
        · have hkl : k < (rowF (chs i) (i + 1)).length := by rw [rowF_len]; exact hkt
          rcases HI.out.at_ with e | ⟨bA, oA, rfl, hc⟩
          · rw [e] at hkl; simp at hkl
          have x0 := hc k hkl
          rw [rowF_at _ _ _ hkt] at x0
          have hbA := cell_lt x0
          dsimp only at hbA
          have hsz := HBt.out.size
          have x1 : wr.cell? ⟨bA, oA + k, none⟩ = some (.int .i64 (chs i k : Int)) := by rw [HBt.out.cell (p := ⟨bA, oA + k, none⟩) hbA]; exact x0
          have y1 := own_atT HO.out k (by omega)
          have HS1 := hid (own_setT HO.out k (prt i k k + chs i k))
          rw [mid_eq] at HS1
          have y2 := own_atT HS1.out (k + 1) (by omega)
          have HS2 := hid (own_setT HS1.out (k + 1) (mid i k (k + 1) + chs i k))
          rw [prt_next] at HS2
          have f1 := HO.out.frozenAt k
          have f2 := HO.out.frozenAt (k + 1)
          have b1 := HCb.out i k (by omega)
          have b2 := prt_bd i k k (by omega)
          have b3 := mid_bd i k (k + 1) (by omega)
          have hne1 : ¬ bA = wo.heap.size := by omega
          have hne2 : ¬ wo.heap.size = bA := by omega
          have i0' : (0 : Int) ≤ (k : Int) := by omega
          have i1' : (k : Int) < (i : Int) + 1 := by omega
          have i2' : (k : Int) < (i : Int) + 2 := by omega
          have i3' : (k : Int) + 1 < (i : Int) + 2 := by omega
          clear x0 hc hkl
          generalize hp1 : prt i k k = p1 at *
          generalize hm1 : mid i k (k + 1) = m1 at *
          generalize chs i k = cc at *
          clear hp1 hm1
          rw [World.cell?_setCell_other _ _ _ _ (by simp)] at y2
          have hw1 : IntKind.i64.wrap ((p1 : Int) + (cc : Int)) = (p1 : Int) + (cc : Int) := IntWalk.i64_in _ (by omega)
          have hw2 : IntKind.i64.wrap ((m1 : Int) + (cc : Int)) = (m1 : Int) + (cc : Int) := IntWalk.i64_in _ (by omega)
          have hw3 : IntKind.i64.wrap ((k : Int) + 1) = (k : Int) + 1 := IntWalk.i64_in _ (by omega)
          have HF := hid (fun (W : World) (h : Below ((wr.setCell ⟨wo.heap.size, k, none⟩ (.int .i64 ((p1 : Int) + (cc : Int)))).setCell ⟨wo.heap.size, k + 1, none⟩ (.int .i64 ((m1 : Int) + (cc : Int)))).heap.size ((wr.setCell ⟨wo.heap.size, k, none⟩ (.int .i64 ((p1 : Int) + (cc : Int)))).setCell ⟨wo.heap.size, k + 1, none⟩ (.int .i64 ((m1 : Int) + (cc : Int)))) W) => (show W.ownsRow wo.heap.size 3 1 (.slice (some ⟨wo.heap.size, 0, none⟩) (i + 2) (i + 2)) (i + 2) ((rowF (prt i (k + 1)) (i + 2)).map (Value.int .i64)) ∧ Below wo.heap.size wo W from by
            rw [Int.natCast_add, Int.natCast_add] at HS2
            exact ⟨own_below HS2.out h, ((HBt.out.setCell (p := ⟨wo.heap.size, k, none⟩) (Nat.le_refl _) _).setCell (p := ⟨wo.heap.size, k + 1, none⟩) (Nat.le_refl _) _).trans (h.mono (by simp only [World.size_setCell]; omega))⟩))
          clear HS1 HS2
          go_wp2
          go_region
          all_goals
            go_wp2
            go_region
            all_goals
              go_wp2
              go_roundw
              case rel =>
                have hh := HF.out
                first
                  | exact ⟨k + 1, by omega, by go_num, (hh _ (Below.drew (Below.drew (Below.refl _ _)))).1, (hh _ (Below.drew (Below.drew (Below.refl _ _)))).2⟩
                  | exact ⟨k + 1, by omega, by go_num, (hh _ (Below.drew (Below.refl _ _))).1, (hh _ (Below.drew (Below.refl _ _))).2⟩
                  | exact ⟨k + 1, by omega, by go_num, (hh _ (Below.refl _ _)).1, (hh _ (Below.refl _ _)).2⟩
              case measure => simp [intOf]; omega
        · obtain rfl : k = i + 1 := by omega
          have HFu := hid (show rowF (prt i (i + 1)) (i + 2) = rowF (chs (i + 1)) (i + 1 + 1) from rowF_congr _ _ _ fun j hj => prt_full i j hj)
          have HIn := hid (own_intsT HO.out (by omega) (fun j => Nat.le_trans (prt_bd i (i + 1) j (by omega)) (by omega)))
          rw [HFu.out] at HIn
          have HBn := hid (HB.out.trans (HBt.out.mono HB.out.size))
          clear HO HBt
          go_wp2
          go_roundw
          case rel => exact ⟨i + 1, _, _, by omega, rfl, by go_num, HIn, HBn⟩
          case measure => simp [intOf]; omega
    · obtain rfl : i = n := by omega
      clear HCb
      go_wp2
      go_loopw [9, 10] (fun s t wt => ∃ (k : Nat), q ≤ k ∧ k ≤ i + 1 ∧ t = .int .i64 k ∧ s = .int .i64 (tailTo i q k : Nat) ∧ wt = wo) (fun _ t _ => i + 1 - (intOf t).toNat)
      case atStart => exact ⟨q, Nat.le_refl _, by omega, rfl, by rw [HT0.out]; rfl, rfl⟩
      case round =>
        obtain ⟨k, hqk, hk, rfl, rfl, rfl⟩ := hrel
        have ht := HTb.out k
        by_cases hkt : k < i + 1
        · have hkl : k < (rowF (chs i) (i + 1)).length := by rw [rowF_len]; exact hkt
          rcases HI.out.at_ with e | ⟨bA, oA, rfl, hc⟩
          · rw [e] at hkl; simp at hkl
          have x0 := hc k hkl
          rw [rowF_at _ _ _ hkt] at x0
          have HN := hid ((HTs.out k).trans (by rw [if_pos hqk] : _ = tailTo i q k + chs i k))
          have ht2 := HTb.out (k + 1)
          rw [HN.out] at ht2
          clear hc hkl
          generalize tailTo i q k = t0 at *
          generalize chs i k = cc at *
          go_wp2
          go_roundw
          case rel => exact ⟨k + 1, by omega, by omega, by go_num, by rw [HN.out]; go_num, by first | rfl | trivial⟩
          case measure => simp [intOf]; omega
        · obtain rfl : k = i + 1 := by omega
          go_wp2
          go_ret
          exact ⟨HB.out, by rw [HTt.out]; rfl⟩
end Go.Proofs.Ytfjncmhbpfcdiab
