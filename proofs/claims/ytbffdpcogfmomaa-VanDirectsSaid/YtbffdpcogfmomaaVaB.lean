/- The tests of a tour; its length; the nearest stop: package van. -/
import Derived.Test.YtbffdpcogfmomaaVaA
import Derived.Test.YtbffdpcogfmomaaVaBdM
import Derived.Test.YtbffdpcogfmomaaRowsI
set_option linter.unusedVariables false
namespace Go.Proofs.Ytbffdpcogfmomaa
open Go.RowKit

/-- The cells of an array of marks. -/
def mcs (f : Nat → Bool) : Array Value := #[.bool (f 0), .bool (f 1), .bool (f 2), .bool (f 3), .bool (f 4), .bool (f 5), .bool (f 6)]
theorem mcs_at (f : Nat → Bool) (i : Nat) (h : i < 7) : (mcs f)[i]? = some (.bool (f i)) := by
  match i, h with
  | 0, _ => rfl
  | 1, _ => rfl
  | 2, _ => rfl
  | 3, _ => rfl
  | 4, _ => rfl
  | 5, _ => rfl
  | 6, _ => rfl
def mark (f : Nat → Bool) (k : Nat) : Nat → Bool := fun i => if i = k then true else f i
theorem mcs_set (f : Nat → Bool) (k : Nat) (h : k < 7) : (mcs f).setIfInBounds k (.bool true) = mcs (mark f k) := by
  match k, h with
  | 0, _ => rfl
  | 1, _ => rfl
  | 2, _ => rfl
  | 3, _ => rfl
  | 4, _ => rfl
  | 5, _ => rfl
  | 6, _ => rfl
/-- A block that holds marks. -/
def MBox (w : World) (B : Nat) (f : Nat → Bool) : Prop := w.heap[B]? = some (.cells (mcs f) 121 (0, 0))
theorem MBox.cell {w : World} {B : Nat} {f : Nat → Bool} (h : MBox w B f) (i : Nat) (hi : i < 7) : w.cell? ⟨B, i, none⟩ = some (.bool (f i)) := by
  unfold MBox at h
  unfold World.cell?
  simp [h, mcs_at f i hi]
theorem MBox.frozen {w : World} {B : Nat} {f : Nat → Bool} (h : MBox w B f) (i : Nat) : w.frozen? ⟨B, i, none⟩ = false := by
  unfold MBox at h
  unfold World.frozen?
  simp [h]
theorem MBox.made (w : World) (f : Nat → Bool) : MBox (w.alloc (.cells (mcs f) 121)) w.heap.size f := by
  unfold MBox World.alloc
  simp
theorem MBox.set {w : World} {B : Nat} {f : Nat → Bool} (h : MBox w B f) (k : Nat) (hk : k < 7) : MBox (w.setCell ⟨B, k, none⟩ (.bool true)) B (mark f k) := by
  unfold MBox at h ⊢
  rw [heap_setCell_same w B k _ _ _ h, mcs_set f k hk]
/-- What is marked behind k elements. -/
def marked (o : List Int) (k : Nat) : Nat → Bool := fun i => decide ((i : Int) ∈ o.take k)
theorem take_v (o : List Int) (k : Nat) (h : k < o.length) : o.take (k + 1) = o.take k ++ [vAt o k] := by
  rw [List.take_succ_eq_append_getElem h]; simp [vAt, h]
theorem marked_succ (o : List Int) (k : Nat) (h : k < o.length) (h0 : 0 ≤ vAt o k) : marked o (k + 1) = mark (marked o k) (vAt o k).toNat := by
  funext i
  unfold marked mark
  rw [take_v o k h]
  by_cases e : i = (vAt o k).toNat
  · rw [if_pos e]
    simp; right; omega
  · rw [if_neg e]
    have e' : (i : Int) ≠ vAt o k := by omega
    simp [e']
def stopsB (o : List Int) (n : Nat) : Bool := o.all fun x => zin x 1 ((n : Int) - 1)
/-- The error of a tour. -/
def tourE (o : List Int) (n : Nat) : Int := if stopsB o n = true then (if o.Nodup then 0 else 6) else 5
theorem stopsB_iff (o : List Int) (n : Nat) : stopsB o n = true ↔ StopsOk o n := by
  simp only [stopsB, List.all_eq_true, StopsOk, zin, decide_eq_true_eq]
  exact ⟨fun h x hx => by have := h x hx; omega, fun h x hx => by have := h x hx; omega⟩
theorem stopsB_bad {o : List Int} {n k : Nat} (hk : k < o.length) (h : zin (vAt o k) 1 ((n : Int) - 1) = false) : tourE o n = 5 := by
  unfold tourE
  rw [if_neg]
  intro e
  have := List.all_eq_true.1 e _ (vAt_mem hk)
  simp [h] at this
theorem tourE_twice {o : List Int} {n k : Nat} (hs : StopsOk o n) (hk : k < o.length) (h : vAt o k ∈ o.take k) : tourE o n = 6 := by
  unfold tourE
  rw [if_pos ((stopsB_iff o n).2 hs), if_neg]
  intro hn
  obtain ⟨i, hi, he⟩ := mem_vAt h
  have hi' : i < k := by simp at hi; omega
  rw [vAt_take o k i hi'] at he
  have := vAt_inj hn (by omega) hk he
  omega
theorem tourE_ok {o : List Int} {n : Nat} (hs : StopsOk o n) (h : o.Nodup) : tourE o n = 0 := by
  unfold tourE
  rw [if_pos ((stopsB_iff o n).2 hs), if_pos h]
theorem tourE_iff (o : List Int) (n : Nat) : tourE o n = 0 ↔ StopsOk o n ∧ o.Nodup := by
  unfold tourE
  constructor
  · intro h
    split at h
    · rename_i h1
      split at h
      · rename_i h2; exact ⟨(stopsB_iff o n).1 h1, h2⟩
      · cases h
    · cases h
  · rintro ⟨h1, h2⟩
    rw [if_pos ((stopsB_iff o n).2 h1), if_pos h2]
theorem nodup_step {o : List Int} {k : Nat} (hk : k < o.length) (h : (o.take k).Nodup) (hm : vAt o k ∉ o.take k) : (o.take (k + 1)).Nodup := by
  rw [take_v o k hk, List.nodup_append]
  exact ⟨h, by simp, fun a ha b hb => by simp at hb; subst hb; intro e; exact hm (e ▸ ha)⟩

set_option maxRecDepth 100000 in
set_option maxHeartbeats 2000000 in
theorem vCheckTour_any (a : Option Addr) (o : List Int) (cap n : Nat) (w : World) (h : Ints w a o) (hn : n ≤ 7) : Calls Try.prog 54 #[.int .i64 (n : Int), .slice a o.length cap] w (IntR w (tourE o n)) := by
  have hlen := h.len
  have HH := hid h
  clear h
  go_enter Try.func54, Try.ntmps54
  go_wp2
  go_loop [12] (fun i => ∃ (k : Nat), k ≤ o.length ∧ i = .int .i64 k ∧ Hid (∀ i, i < k → 1 ≤ vAt o i ∧ vAt o i < n)) (fun i => o.length - (intOf i).toNat)
  case atStart => exact ⟨0, Nat.zero_le _, rfl, fun i hi => by omega⟩
  case round =>
    obtain ⟨k, hk, rfl, HG⟩ := hrel
    by_cases hlt : k < o.length
    · obtain ⟨b, off, rfl, hc⟩ := HH.out.at' (by omega)
      have c0 := hc k hlt
      rw [show o[k]?.getD 0 = vAt o k from rfl] at c0
      have HBad := hid (fun e => stopsB_bad (n := n) hlt e)
      have HGs := hid (fun (e : zin (vAt o k) 1 ((n : Int) - 1) = true) => show ∀ i, i < k + 1 → 1 ≤ vAt o i ∧ vAt o i < n from fun i hi => by
        rcases Nat.lt_or_ge i k with h | h
        · exact HG.out i h
        · rw [show i = k by omega]; have := of_decide_eq_true e; omega)
      clear hc
      generalize vAt o k = x at *
      have HA := hid (vIsStop_any x n hn)
      cases hz : zin x 1 ((n : Int) - 1) with
      | false =>
        rw [hz] at HA
        have HN := hid (HBad.out hz)
        clear hz HBad HGs
        go_wp2_with fail
        refine (HA.out _).mono ?_
        rintro e w1 ⟨rfl, rfl⟩
        go_wp2
        go_ret
        exact ⟨Below.refl _ _, ret_int (by rw [HN.out])⟩
      | true =>
        rw [hz] at HA
        have HN := hid (HGs.out hz)
        clear hz HBad HGs
        go_wp2_with fail
        refine (HA.out _).mono ?_
        rintro e w1 ⟨rfl, rfl⟩
        go_wp2
        go_round
        case rel => exact ⟨k + 1, by omega, by go_num, HN⟩
        case measure => simp [intOf]; omega
    · have HSt := hid (show StopsOk o n from fun x hx => by obtain ⟨i, hi, rfl⟩ := mem_vAt hx; exact HG.out i (by omega))
      clear HG
      have HB0 := hid ((Below.refl w.heap.size w).alloc (Nat.le_refl _) (.cells #[.bool false, .bool false, .bool false, .bool false, .bool false, .bool false, .bool false] 121))
      have HZ : Hid (MBox (w.alloc (.cells #[.bool false, .bool false, .bool false, .bool false, .bool false, .bool false, .bool false] 121)) w.heap.size (marked o 0)) := hid (MBox.made w (fun _ => false))
      go_wp2
      go_loopw [23] (fun i wr => ∃ (k : Nat), k ≤ o.length ∧ i = .int .i64 k ∧ Hid ((o.take k).Nodup) ∧ Hid (MBox wr w.heap.size (marked o k)) ∧ Hid (Below w.heap.size w wr)) (fun i _ => o.length - (intOf i).toNat)
      case atStart => exact ⟨0, Nat.zero_le _, rfl, by unfold Hid; simp, HZ, HB0⟩
      case round =>
        obtain ⟨k, hk, rfl, HG, HW, HB⟩ := hrel
        clear HZ HB0
        by_cases hlt : k < o.length
        · obtain ⟨b, off, rfl, hc⟩ := HH.out.at' (by omega)
          have c00 := hc k hlt
          have c0 := (HB.out.cell (cell_lt c00)).trans c00
          rw [show o[k]?.getD 0 = vAt o k from rfl] at c0
          have hx := HSt.out _ (vAt_mem hlt)
          have HMs := hid (fun h0 => marked_succ o k hlt h0)
          have HMm := hid (fun (i : Nat) => show marked o k i = decide ((i : Int) ∈ o.take k) from rfl)
          have HTw := hid (fun e => tourE_twice HSt.out hlt e)
          have HNd := hid (fun e => nodup_step hlt HG.out e)
          clear hc c00
          generalize vAt o k = x at *
          obtain ⟨hx1, hxn⟩ := hx
          have hx0 : 0 ≤ x := by omega
          obtain ⟨m, rfl⟩ := Int.eq_ofNat_of_zero_le hx0
          have hm7 : m < 7 := by omega
          have m0 := HW.out.cell m hm7
          have mf := HW.out.frozen m
          have hm7' : (m : Int) < 7 := by omega
          cases hmk : marked o k m with
          | true =>
            rw [hmk] at m0
            have HN := hid (HTw.out (by rw [HMm.out m] at hmk; exact of_decide_eq_true hmk))
            clear hmk HMs HMm HTw HNd
            go_wp2
            go_ret
            exact ⟨HB.out, ret_int (by rw [HN.out])⟩
          | false =>
            rw [hmk] at m0
            have HN := hid (HNd.out (by rw [HMm.out m] at hmk; exact of_decide_eq_false hmk))
            have HM2 := hid (HMs.out hx0)
            rw [Int.toNat_natCast] at HM2
            clear hmk HMs HMm HTw HNd
            go_wp2
            go_roundw
            case rel => exact ⟨k + 1, by omega, by go_num, HN, by rw [HM2.out]; exact HW.out.set m hm7, HB.out.setCell (Nat.le_refl _) _⟩
            case measure => simp [intOf]; omega
        · have HN := hid (show tourE o n = 0 from tourE_ok HSt.out (by have := HG.out; rwa [List.take_of_length_le (by omega)] at this))
          go_wp2
          go_ret
          exact ⟨HB.out, ret_int (by rw [HN.out])⟩

set_option maxRecDepth 100000 in
set_option maxHeartbeats 2000000 in
theorem vLength_any (a A : Option Addr) (t : Tbl) (o : List Int) (cap c : Nat) (w : World) (h : TabAt w a t) (hi : Ints w A o) (ht : Ways t) (ho : StopsOk o t.length) (hol : o.length ≤ 100) :
  Calls Try.prog 55 #[.slice a t.length cap, .slice A o.length c] w (NumK w (tourL t o)) := by
  have hpos := ht.pos
  have hl7 := ht.len
  obtain ⟨b, off, rfl, hc⟩ := h.sq ht.sq hpos
  have HC := hid hc
  have HI := hid hi
  have HT := hid ht
  have HO := hid ho
  clear h hc hi ht ho
  go_enter Try.func55, Try.ntmps55
  go_wp2
  go_loop [5, 6, 11] (fun s p i => ∃ (k : Nat), k ≤ o.length ∧ i = .int .i64 k ∧ s = .int .i64 (preL t o k) ∧ p = .int .i64 (lastP o k)) (fun _ _ i => o.length - (intOf i).toNat)
  case atStart => exact ⟨0, Nat.zero_le _, rfl, rfl, rfl⟩
  case round =>
    obtain ⟨k, hk, rfl, rfl, rfl⟩ := hrel
    have hp := lastP_in HO.out hpos hk
    have hb := preL_bd HT.out HO.out k hk
    by_cases hlt : k < o.length
    · obtain ⟨b1, o1, rfl, hc1⟩ := HI.out.at' (by omega)
      have c0 := hc1 k hlt
      rw [show o[k]?.getD 0 = vAt o k from rfl] at c0
      have hx := HO.out _ (vAt_mem hlt)
      have HS := hid (show preL t o (k + 1) = preL t o k + tA t (lastP o k) (vAt o k) from rfl)
      have HL := hid (lastP_succ o k)
      have hw := HT.out.bdI _ (vAt o k) hp ⟨by omega, hx.2⟩
      clear hc1
      generalize preL t o k = s at *
      generalize lastP o k = p at *
      generalize vAt o k = x at *
      obtain ⟨i, rfl⟩ := Int.eq_ofNat_of_zero_le hp.1
      obtain ⟨j, rfl⟩ := Int.eq_ofNat_of_zero_le (show 0 ≤ x by omega)
      obtain ⟨b2, o2, c2, g1, _, g2⟩ := HC.out i (by omega)
      have g3 := g2 j (by omega)
      generalize tA t i j = y at *
      clear g2
      have hj : (j : Int) < (t.length : Int) := hx.2
      have hi' : (i : Int) < (t.length : Int) := hp.2
      go_wp2
      go_round
      case rel => exact ⟨k + 1, by omega, by go_num, by rw [HS.out], by rw [HL.out]⟩
      case measure => simp [intOf]; omega
    · obtain rfl : k = o.length := by omega
      have HS := hid (show tourL t o = preL t o o.length + tA t (lastP o o.length) 0 from rfl)
      have hw := HT.out.bdI _ 0 hp ⟨by omega, by omega⟩
      generalize preL t o o.length = s at *
      generalize lastP o o.length = p at *
      obtain ⟨i, rfl⟩ := Int.eq_ofNat_of_zero_le hp.1
      obtain ⟨b2, o2, c2, g1, _, g2⟩ := HC.out i (by omega)
      have g3 := g2 0 (by omega)
      rw [show tA t (i : Int) ((0 : Nat) : Int) = tA t (i : Int) 0 from rfl, Nat.add_zero] at g3
      generalize tA t i 0 = y at *
      clear g2
      have hi' : (i : Int) < (t.length : Int) := hp.2
      have h0t : (0 : Int) < (t.length : Int) := by omega
      go_wp2
      go_ret
      exact ⟨rfl, ret_int (by rw [HS.out])⟩
end Go.Proofs.Ytbffdpcogfmomaa
