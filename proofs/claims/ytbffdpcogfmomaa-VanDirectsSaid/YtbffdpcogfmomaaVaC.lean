/- All stops; the nearest one: package van. -/
import Derived.Test.YtbffdpcogfmomaaVaB
import Derived.Test.YtbffdpcogfmomaaVaOwn
set_option linter.unusedVariables false
namespace Go.Proofs.Ytbffdpcogfmomaa
open Go.RowKit

theorem stops_succ (n : Nat) (h : 1 ≤ n) : stopsL (n + 1) = stopsL n ++ [(n : Int)] := by
  obtain ⟨m, rfl⟩ : ∃ m, n = m + 1 := ⟨n - 1, by omega⟩
  simp only [stopsL, show m + 1 + 1 - 1 = m + 1 by omega, show m + 1 - 1 = m by omega, List.range_succ, List.map_append]
  simp
set_option maxRecDepth 100000 in
set_option maxHeartbeats 1000000 in
theorem vAllStops_any (n : Nat) (hn : n ≤ 7) (h1 : 1 ≤ n) (w : World) : Calls Try.prog 66 #[.int .i64 (n : Int)] w (OwnV w w.heap.size (stopsL n)) := by
  obtain ⟨i0, hinf, hz0, hz1, hz2⟩ := info_parts int_info
  go_enter Try.func66, Try.ntmps66
  go_wp2_with fail
  go_loopw [3, 4] (fun v i wr => ∃ (k : Nat), k + 1 ≤ n ∧ i = .int .i64 (k + 1 : Nat) ∧ Own wr w.heap.size v (stopsL (k + 1)) ∧ Below w.heap.size w wr) (fun _ i _ => n - (intOf i).toNat)
  case atStart => exact ⟨0, by omega, rfl, Own.nil _ _, Below.refl _ _⟩
  case round =>
    obtain ⟨k, hk, rfl, hown, hB⟩ := hrel
    have hlen := stopsL_len (k + 1)
    by_cases hlt : k + 1 < n
    · have HT := hid (stops_succ (k + 1) (by omega))
      have hlt' : ((k + 1 : Nat) : Int) < (n : Int) := by omega
      generalize hpre : stopsL (k + 1) = pre at *
      clear hpre
      go_wp2_with (at_builtin; refine wpList_append_own _ rfl _ _ 23 rfl w.heap.size 3 i0 (.int .i64 0) 1 8 Try.underlying23 hinf hz0 hz1 hz2 rfl (by decide) _ _ _ rfl (hown.alloc _) ⟨wr.heap.size, 0, none⟩ 1 1 [.int .i64 ((k + 1 : Nat) : Int)] rfl rfl ?c1 ?c2 ?c3 ?c4 ?c5 ?_)
      case c1 => exact cell_one_new _ _ _
      case c2 => simp [Value.oneCell']
      case c3 => unfold maxLen; omega
      case c4 => omega
      case c5 => have := hB.size; simp; omega
      intro v' w4 hown2 hgrow _
      have p4 := (hB.alloc hB.size _).grown hgrow (by have := hB.size; simp; omega) (fun q hq => by have := (hown.lt q hq).1; omega)
      clear hgrow hown
      go_wp2
      go_roundw
      case rel => exact ⟨k + 1, by omega, by go_num, by rw [HT.out]; unfold Own; rw [List.length_append, List.map_append, show pre.length = k by omega]; simpa using hown2, p4⟩
      case measure => simp [intOf]; omega
    · have e : k + 1 = n := by omega
      have hge : (n : Int) ≤ ((k + 1 : Nat) : Int) := by omega
      obtain ⟨A, c, rfl⟩ := own_slice hown
      rw [e] at hown
      have HO := hid hown
      have HBl := hid hB
      clear hown hB
      go_wp2
      go_ret
      exact ⟨HBl.out, A, c, by rw [← e]; rfl, HO.out⟩
/-- The first of the places that are nearest. -/
structure NearI (row l : List Int) (b : Nat) : Prop where
  lt : b < l.length
  le : ∀ i, i < l.length → pI row (vAt l b) ≤ pI row (vAt l i)
  fst : ∀ i, i < b → pI row (vAt l b) < pI row (vAt l i)
theorem NearI.eq {row l : List Int} {a b : Nat} (h : NearI row l a) (k : NearI row l b) : a = b := by
  rcases Nat.lt_trichotomy a b with e | e | e
  · have := k.fst a e; have := h.le b k.lt; omega
  · exact e
  · have := h.fst b e; have := k.le a h.lt; omega
def NearK (row l : List Int) (b k : Nat) : Prop := b < l.length ∧ b ≤ k ∧ (∀ i, i < k → pI row (vAt l b) ≤ pI row (vAt l i)) ∧ ∀ i, i < b → pI row (vAt l b) < pI row (vAt l i)
theorem NearK.yes {row l : List Int} {b k : Nat} (h : NearK row l b k) (hk : k < l.length) (hc : pI row (vAt l k) < pI row (vAt l b)) : NearK row l k (k + 1) := by
  obtain ⟨h1, h2, h3, h4⟩ := h
  refine ⟨hk, by omega, fun i hi => ?_, fun i hi => ?_⟩
  · rcases Nat.lt_or_ge i k with e | e
    · have := h3 i e; omega
    · rw [show i = k by omega]; omega
  · have := h3 i hi; omega
theorem NearK.no {row l : List Int} {b k : Nat} (h : NearK row l b k) (hk : k < l.length) (hc : ¬ pI row (vAt l k) < pI row (vAt l b)) : NearK row l b (k + 1) := by
  obtain ⟨h1, h2, h3, h4⟩ := h
  refine ⟨h1, by omega, fun i hi => ?_, h4⟩
  rcases Nat.lt_or_ge i k with e | e
  · exact h3 i e
  · rw [show i = k by omega]; omega
set_option maxRecDepth 100000 in
set_option maxHeartbeats 2000000 in
theorem vNearest_any (a A : Option Addr) (row l : List Int) (cap c : Nat) (w : World) (h : Ints w a row) (hi : Ints w A l) (h0 : 0 < l.length) (hl : l.length ≤ 100) (hin : ∀ x ∈ l, 0 ≤ x ∧ x < row.length) :
  Calls Try.prog 69 #[.slice a row.length cap, .slice A l.length c] w (fun en w' => ∃ n b, w' = w.drewN n ∧ en = .returned (.int .i64 ((b : Nat) : Int)) ∧ NearI row l b) := by
  have hr0 : 0 < row.length := by
    have := hin _ (vAt_mem h0); omega
  have hrl := h.len
  obtain ⟨b1, o1, rfl, hc1⟩ := h.at' hr0
  obtain ⟨b2, o2, rfl, hc2⟩ := hi.at' h0
  have H1 := hid (fun n j (hj : j < row.length) => show (w.drewN n).cell? ⟨b1, o1 + j, none⟩ = some (.int .i64 (row[j]?.getD 0)) from hc1 j hj)
  have H2 := hid (fun n j (hj : j < l.length) => show (w.drewN n).cell? ⟨b2, o2 + j, none⟩ = some (.int .i64 (vAt l j)) from hc2 j hj)
  have HI := hid hin
  clear h hi hc1 hc2 hin
  go_enter Try.func69, Try.ntmps69
  go_wp2
  go_loopw [5, 10] (fun v i wr => ∃ (k b n : Nat), k ≤ l.length ∧ i = .int .i64 k ∧ v = .int .i64 b ∧ Hid (NearK row l b k) ∧ Hid (wr = w.drewN n)) (fun _ i _ => l.length - (intOf i).toNat)
  case atStart => exact ⟨0, 0, 0, Nat.zero_le _, rfl, rfl, ⟨h0, Nat.le_refl _, fun i hi => by omega, fun i hi => by omega⟩, rfl⟩
  case round =>
    obtain ⟨k, b, n, hk, rfl, rfl, HN, HW⟩ := hrel
    have HWs := HW.out
    have hbl := HN.out.1
    by_cases hlt : k < l.length
    · have c1 := H2.out n k hlt
      have c2 := H2.out n b hbl
      have m1 := HI.out _ (vAt_mem hlt)
      have m2 := HI.out _ (vAt_mem hbl)
      have HY := hid (fun e => HN.out.yes hlt e)
      have HNo := hid (fun e => HN.out.no hlt e)
      clear HN
      generalize vAt l k = x at *
      generalize vAt l b = y at *
      obtain ⟨i, rfl⟩ := Int.eq_ofNat_of_zero_le m1.1
      obtain ⟨j, rfl⟩ := Int.eq_ofNat_of_zero_le m2.1
      have d1 := H1.out n i (by omega)
      have d2 := H1.out n j (by omega)
      rw [show row[i]?.getD 0 = pI row (i : Int) from rfl] at d1
      rw [show row[j]?.getD 0 = pI row (j : Int) from rfl] at d2
      generalize pI row (i : Int) = u at *
      generalize pI row (j : Int) = v at *
      have q1 := m1.2
      have q2 := m2.2
      have q3 : (b : Int) < (l.length : Int) := by omega
      rw [← HWs] at c1 c2 d1 d2
      clear m1 m2 HWs
      by_cases hc : u < v
      · have HX := hid (HY.out hc)
        clear HY HNo
        go_wp2_with fail
        go_quiet (fail)
        go_wp2
        go_roundw
        case rel => exact ⟨k + 1, k, n + nq, by omega, by go_num, rfl, HX, by rw [HW.out, World.drewN_drewN]; rfl⟩
        case measure => simp [intOf]; omega
      · have HX := hid (HNo.out hc)
        have hc' : v ≤ u := by omega
        clear HY HNo hc
        go_wp2_with fail
        go_quiet (fail)
        go_wp2
        go_roundw
        case rel => exact ⟨k + 1, b, n + nq, by omega, by go_num, rfl, HX, by rw [HW.out, World.drewN_drewN]; rfl⟩
        case measure => simp [intOf]; omega
    · obtain rfl : k = l.length := by omega
      obtain ⟨n1, n2, n3, n4⟩ := HN.out
      have HX := hid (show NearI row l b from ⟨n1, n3, n4⟩)
      clear n1 n2 n3 n4 HN HWs
      go_wp2
      go_ret
      exact ⟨n, b, HW.out, rfl, HX.out⟩
end Go.Proofs.Ytbffdpcogfmomaa
