/- The theorem TopShares: the early ends; all together. -/
import Derived.Test.YtnjaacmcdkiilaaTopSharesW
set_option linter.unusedVariables false
namespace Go.Proofs.Ytnjaacmcdkiilaa
open Go.RowKit

set_option maxRecDepth 100000 in
set_option maxHeartbeats 8000000 in
theorem top_long1 (oa sa : Option Addr) (os ss : List Int) (oc sc : Nat) (N K : Int) (w : World) (h1 : os.length ≤ 9223372036854775807) (h2 : ss.length ≤ 9223372036854775807) (hl : longI os = true) :
  Calls Try.prog 14 #[.slice oa os.length oc, .agg #[.int .i64 N, .int .i64 K, .slice sa ss.length sc]] w (BoolR w true) := by
  have hBox := hid (show ExtW w w.heap.size N K (.slice sa ss.length sc) (w.alloc (.cells #[.int .i64 N, .int .i64 K, .slice sa ss.length sc] 62)) from ⟨by go_simp, by go_simp, by go_simp, (Below.refl w.heap.size w).alloc (Nat.le_refl _) _⟩)
  have HL := hid (fun w => long4_any oa os oc w h1)
  have HL2 := hid (fun w => long4_any sa ss sc w h2)
  obtain ⟨six, hsix⟩ : ∃ l : List Int, l = [4, 1, 1] := ⟨_, rfl⟩
  have H6 := hid (six_any (w.alloc (.cells #[.int .i64 N, .int .i64 K, .slice sa ss.length sc] 62)))
  rw [show (w.alloc (.cells #[.int .i64 N, .int .i64 K, .slice sa ss.length sc] 62)).heap.size = w.heap.size + 1 by simp, ← hsix] at H6
  have H6v := hid (show ∀ x ∈ six, -9223372036854775808 ≤ x ∧ x ≤ 9223372036854775807 by rw [hsix]; intro x hx; simp at hx; omega)
  have H6l := hid (show six.length ≤ 140737488355328 by rw [hsix]; decide)
  have HSame6 := hid (fun (w' : World) (A : Option Addr) (a : Nat) (h : Ints w' A six) => same_self2 A (some ⟨w'.heap.size, 0, none⟩) six 3 a 3 (w'.alloc (.cells #[.int .i64 4, .int .i64 1, .int .i64 1] 3)) (h.below ((Below.refl _ _).alloc (Nat.le_refl _) _)) (by rw [hsix]; exact lit3 w' 4 1 1 (by omega) (by omega) (by omega)) (by rw [hsix]; rfl))
  clear hsix h1 h2
  rw [hl] at HL
  clear hl
  go_enter Try.func14, Try.ntmps14
  go_wp2_with fail
  refine H6.out.mono ?_
  rintro e w1 ⟨q1, A1, a1, rfl, o1⟩
  have hB1 := hid (hBox.out.keep (((Below.refl _ _).alloc (Nat.le_refl _) _).trans (q1.mono (by simp))))
  obtain ⟨_, _, hv1, i1⟩ := o1.ints H6l.out H6v.out
  cases hv1
  clear q1 o1
  go_wp2_with fail
  refine (HSame6.out w1 A1 a1 i1).mono ?_
  rintro e w2 ⟨q2, rfl⟩
  have hB2 := hid (hB1.out.keep (((Below.refl _ _).alloc (Nat.le_refl _) _).trans (q2.mono (by simp))))
  obtain ⟨c0, c1, c2, p2⟩ := hB2.out
  clear q2 i1 hB1 H6 HSame6 H6v H6l
  go_wp2_with fail
  refine (HL.out _).mono ?_
  rintro e w' ⟨rfl, rfl⟩
  go_wp2
  go_ret
  exact ⟨p2, rfl⟩

set_option maxRecDepth 100000 in
set_option maxHeartbeats 8000000 in
theorem top_long2 (oa sa : Option Addr) (os ss : List Int) (oc sc : Nat) (N K : Int) (w : World) (h1 : os.length ≤ 9223372036854775807) (h2 : ss.length ≤ 9223372036854775807) (hl : longI os = false) (hl2 : longI ss = true) :
  Calls Try.prog 14 #[.slice oa os.length oc, .agg #[.int .i64 N, .int .i64 K, .slice sa ss.length sc]] w (BoolR w true) := by
  have hBox := hid (show ExtW w w.heap.size N K (.slice sa ss.length sc) (w.alloc (.cells #[.int .i64 N, .int .i64 K, .slice sa ss.length sc] 62)) from ⟨by go_simp, by go_simp, by go_simp, (Below.refl w.heap.size w).alloc (Nat.le_refl _) _⟩)
  have HL := hid (fun w => long4_any oa os oc w h1)
  have HL2 := hid (fun w => long4_any sa ss sc w h2)
  obtain ⟨six, hsix⟩ : ∃ l : List Int, l = [4, 1, 1] := ⟨_, rfl⟩
  have H6 := hid (six_any (w.alloc (.cells #[.int .i64 N, .int .i64 K, .slice sa ss.length sc] 62)))
  rw [show (w.alloc (.cells #[.int .i64 N, .int .i64 K, .slice sa ss.length sc] 62)).heap.size = w.heap.size + 1 by simp, ← hsix] at H6
  have H6v := hid (show ∀ x ∈ six, -9223372036854775808 ≤ x ∧ x ≤ 9223372036854775807 by rw [hsix]; intro x hx; simp at hx; omega)
  have H6l := hid (show six.length ≤ 140737488355328 by rw [hsix]; decide)
  have HSame6 := hid (fun (w' : World) (A : Option Addr) (a : Nat) (h : Ints w' A six) => same_self2 A (some ⟨w'.heap.size, 0, none⟩) six 3 a 3 (w'.alloc (.cells #[.int .i64 4, .int .i64 1, .int .i64 1] 3)) (h.below ((Below.refl _ _).alloc (Nat.le_refl _) _)) (by rw [hsix]; exact lit3 w' 4 1 1 (by omega) (by omega) (by omega)) (by rw [hsix]; rfl))
  clear hsix h1 h2
  rw [hl] at HL
  rw [hl2] at HL2
  clear hl hl2
  go_enter Try.func14, Try.ntmps14
  go_wp2_with fail
  refine H6.out.mono ?_
  rintro e w1 ⟨q1, A1, a1, rfl, o1⟩
  have hB1 := hid (hBox.out.keep (((Below.refl _ _).alloc (Nat.le_refl _) _).trans (q1.mono (by simp))))
  obtain ⟨_, _, hv1, i1⟩ := o1.ints H6l.out H6v.out
  cases hv1
  clear q1 o1
  go_wp2_with fail
  refine (HSame6.out w1 A1 a1 i1).mono ?_
  rintro e w2 ⟨q2, rfl⟩
  have hB2 := hid (hB1.out.keep (((Below.refl _ _).alloc (Nat.le_refl _) _).trans (q2.mono (by simp))))
  obtain ⟨c0, c1, c2, p2⟩ := hB2.out
  clear q2 i1 hB1 H6 HSame6 H6v H6l
  go_wp2_with fail
  refine (HL.out _).mono ?_
  rintro e w' ⟨rfl, rfl⟩
  go_wp2_with fail
  refine (HL2.out _).mono ?_
  rintro e w' ⟨rfl, rfl⟩
  go_wp2
  go_ret
  exact ⟨p2, rfl⟩

set_option maxRecDepth 100000 in
set_option maxHeartbeats 8000000 in
theorem top_many (oa sa : Option Addr) (os ss : List Int) (oc sc : Nat) (N K : Int) (w : World) (h1 : os.length ≤ 9223372036854775807) (h2 : ss.length ≤ 9223372036854775807) (hl : longI os = false) (hl2 : longI ss = false) (hN : 200 < N) :
  Calls Try.prog 14 #[.slice oa os.length oc, .agg #[.int .i64 N, .int .i64 K, .slice sa ss.length sc]] w (BoolR w true) := by
  have hBox := hid (show ExtW w w.heap.size N K (.slice sa ss.length sc) (w.alloc (.cells #[.int .i64 N, .int .i64 K, .slice sa ss.length sc] 62)) from ⟨by go_simp, by go_simp, by go_simp, (Below.refl w.heap.size w).alloc (Nat.le_refl _) _⟩)
  have HL := hid (fun w => long4_any oa os oc w h1)
  have HL2 := hid (fun w => long4_any sa ss sc w h2)
  obtain ⟨six, hsix⟩ : ∃ l : List Int, l = [4, 1, 1] := ⟨_, rfl⟩
  have H6 := hid (six_any (w.alloc (.cells #[.int .i64 N, .int .i64 K, .slice sa ss.length sc] 62)))
  rw [show (w.alloc (.cells #[.int .i64 N, .int .i64 K, .slice sa ss.length sc] 62)).heap.size = w.heap.size + 1 by simp, ← hsix] at H6
  have H6v := hid (show ∀ x ∈ six, -9223372036854775808 ≤ x ∧ x ≤ 9223372036854775807 by rw [hsix]; intro x hx; simp at hx; omega)
  have H6l := hid (show six.length ≤ 140737488355328 by rw [hsix]; decide)
  have HSame6 := hid (fun (w' : World) (A : Option Addr) (a : Nat) (h : Ints w' A six) => same_self2 A (some ⟨w'.heap.size, 0, none⟩) six 3 a 3 (w'.alloc (.cells #[.int .i64 4, .int .i64 1, .int .i64 1] 3)) (h.below ((Below.refl _ _).alloc (Nat.le_refl _) _)) (by rw [hsix]; exact lit3 w' 4 1 1 (by omega) (by omega) (by omega)) (by rw [hsix]; rfl))
  clear hsix h1 h2
  rw [hl] at HL
  rw [hl2] at HL2
  clear hl hl2
  go_enter Try.func14, Try.ntmps14
  go_wp2_with fail
  refine H6.out.mono ?_
  rintro e w1 ⟨q1, A1, a1, rfl, o1⟩
  have hB1 := hid (hBox.out.keep (((Below.refl _ _).alloc (Nat.le_refl _) _).trans (q1.mono (by simp))))
  obtain ⟨_, _, hv1, i1⟩ := o1.ints H6l.out H6v.out
  cases hv1
  clear q1 o1
  go_wp2_with fail
  refine (HSame6.out w1 A1 a1 i1).mono ?_
  rintro e w2 ⟨q2, rfl⟩
  have hB2 := hid (hB1.out.keep (((Below.refl _ _).alloc (Nat.le_refl _) _).trans (q2.mono (by simp))))
  obtain ⟨c0, c1, c2, p2⟩ := hB2.out
  clear q2 i1 hB1 H6 HSame6 H6v H6l
  go_wp2_with fail
  refine (HL.out _).mono ?_
  rintro e w' ⟨rfl, rfl⟩
  go_wp2_with fail
  refine (HL2.out _).mono ?_
  rintro e w' ⟨rfl, rfl⟩
  go_wp2
  go_ret
  exact ⟨p2, rfl⟩

set_option maxRecDepth 100000 in
set_option maxHeartbeats 8000000 in
theorem top_err (oa sa : Option Addr) (os ss : List Int) (oc sc : Nat) (N K : Int) (w : World) (h1 : os.length ≤ 9223372036854775807) (h2 : ss.length ≤ 9223372036854775807) (ho : Ints w oa os) (hl : longI os = false) (hl2 : longI ss = false) (hN : N ≤ 200) (hE : divE os N K = false) :
  Calls Try.prog 14 #[.slice oa os.length oc, .agg #[.int .i64 N, .int .i64 K, .slice sa ss.length sc]] w (BoolR w true) := by
  have hBox := hid (show ExtW w w.heap.size N K (.slice sa ss.length sc) (w.alloc (.cells #[.int .i64 N, .int .i64 K, .slice sa ss.length sc] 62)) from ⟨by go_simp, by go_simp, by go_simp, (Below.refl w.heap.size w).alloc (Nat.le_refl _) _⟩)
  have HL := hid (fun w => long4_any oa os oc w h1)
  have HL2 := hid (fun w => long4_any sa ss sc w h2)
  obtain ⟨six, hsix⟩ : ∃ l : List Int, l = [4, 1, 1] := ⟨_, rfl⟩
  have H6 := hid (six_any (w.alloc (.cells #[.int .i64 N, .int .i64 K, .slice sa ss.length sc] 62)))
  rw [show (w.alloc (.cells #[.int .i64 N, .int .i64 K, .slice sa ss.length sc] 62)).heap.size = w.heap.size + 1 by simp, ← hsix] at H6
  have H6v := hid (show ∀ x ∈ six, -9223372036854775808 ≤ x ∧ x ≤ 9223372036854775807 by rw [hsix]; intro x hx; simp at hx; omega)
  have H6l := hid (show six.length ≤ 140737488355328 by rw [hsix]; decide)
  have HSame6 := hid (fun (w' : World) (A : Option Addr) (a : Nat) (h : Ints w' A six) => same_self2 A (some ⟨w'.heap.size, 0, none⟩) six 3 a 3 (w'.alloc (.cells #[.int .i64 4, .int .i64 1, .int .i64 1] 3)) (h.below ((Below.refl _ _).alloc (Nat.le_refl _) _)) (by rw [hsix]; exact lit3 w' 4 1 1 (by omega) (by omega) (by omega)) (by rw [hsix]; rfl))
  clear hsix h1 h2
  rw [hl] at HL
  rw [hl2] at HL2
  have HOr := hid (fun (w' : World) (hb : Below w.heap.size w w') => order_any oa os oc N K w' (ho.below hb))
  rw [hE, show ordL os N K = [] by rw [ordL, hE]; rfl, show err false = 1 from rfl] at HOr
  have hz : ((([] : List Int).length : Int) == 0) = true := rfl
  clear hl hl2 hE ho
  go_enter Try.func14, Try.ntmps14
  go_wp2_with fail
  refine H6.out.mono ?_
  rintro e w1 ⟨q1, A1, a1, rfl, o1⟩
  have hB1 := hid (hBox.out.keep (((Below.refl _ _).alloc (Nat.le_refl _) _).trans (q1.mono (by simp))))
  obtain ⟨_, _, hv1, i1⟩ := o1.ints H6l.out H6v.out
  cases hv1
  clear q1 o1
  go_wp2_with fail
  refine (HSame6.out w1 A1 a1 i1).mono ?_
  rintro e w2 ⟨q2, rfl⟩
  have hB2 := hid (hB1.out.keep (((Below.refl _ _).alloc (Nat.le_refl _) _).trans (q2.mono (by simp))))
  obtain ⟨c0, c1, c2, p2⟩ := hB2.out
  clear q2 i1 hB1 H6 HSame6 H6v H6l
  go_wp2_with fail
  refine (HL.out _).mono ?_
  rintro e w' ⟨rfl, rfl⟩
  go_wp2_with fail
  refine (HL2.out _).mono ?_
  rintro e w' ⟨rfl, rfl⟩
  go_wp2_with fail
  refine (HOr.out _ p2).mono ?_
  rintro e w3 ⟨q3, A3, a3, rfl, o3⟩
  have p3 := p2.trans (q3.mono p2.size)
  go_wp2
  go_ret
  exact ⟨p3, rfl⟩

theorem topShares_walk (oa : Option Addr) (os : List Int) (oc : Nat) (N K : Int) (sa : Option Addr) (ss : List Int) (sc : Nat) (w : World) (h1 : os.length ≤ 9223372036854775807) (h2 : ss.length ≤ 9223372036854775807) (hT : os.length ≤ 140737488355328 → Ints w oa os) (hU : ss.length ≤ 140737488355328 → Ints w sa ss) :
  Calls Try.prog 14 #[.slice oa os.length oc, .agg #[.int .i64 N, .int .i64 K, .slice sa ss.length sc]] w (BoolR w true) := by
  cases hl : longI os with
  | true => exact top_long1 oa sa os ss oc sc N K w h1 h2 hl
  | false =>
    have hl60 : os.length ≤ 60 := by simpa [longI] using hl
    cases hl2 : longI ss with
    | true => exact top_long2 oa sa os ss oc sc N K w h1 h2 hl hl2
    | false =>
      have hm60 : ss.length ≤ 60 := by simpa [longI] using hl2
      by_cases hN : 200 < N
      · exact top_many oa sa os ss oc sc N K w h1 h2 hl hl2 hN
      · cases hE : divE os N K with
        | false => exact top_err oa sa os ss oc sc N K w h1 h2 (hT (by omega)) hl hl2 (by omega) hE
        | true =>
          obtain ⟨g1, g2, n, rfl, hn⟩ := divE_ok hE
          exact top_ok oa sa os ss oc sc n K w (hT (by omega)) (hU (by omega)) hl hl2 (by omega) g1 g2
end Go.Proofs.Ytnjaacmcdkiilaa
