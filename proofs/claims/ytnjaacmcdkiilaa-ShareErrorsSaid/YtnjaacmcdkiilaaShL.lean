/- The laws' own check of two known divisions, Long and total. -/
import Derived.Test.YtnjaacmcdkiilaaShK
import Derived.Test.YtnjaacmcdkiilaaSame
set_option linter.unusedVariables false
namespace Go.Proofs.Ytnjaacmcdkiilaa
open Go.RowKit

theorem known_d0 : divL [7, 2, 1] 6 0 = [5, 1, 0] := by decide +kernel
theorem known_d1 : divL [7, 2, 1] 6 1 = [4, 1, 1] := by decide +kernel
theorem known_e0 : divE [7, 2, 1] 6 0 = true := by decide +kernel
theorem known_e1 : divE [7, 2, 1] 6 1 = true := by decide +kernel

theorem below_dn {n : Nat} {w w' : World} (h : Below n w w') (k : Nat) : Below n w (w'.drewN k) := h.trans ⟨rfl, rfl, by simp [World.drewN], Nat.le_refl _, fun _ _ => rfl⟩
theorem three_ints (w : World) (a b c : Int) (ha : -9223372036854775808 ≤ a ∧ a ≤ 9223372036854775807) (hb : -9223372036854775808 ≤ b ∧ b ≤ 9223372036854775807) (hc : -9223372036854775808 ≤ c ∧ c ≤ 9223372036854775807) : Ints (w.alloc (.cells #[.int .i64 a, .int .i64 b, .int .i64 c] 3)) (some ⟨w.heap.size, 0, none⟩) [a, b, c] := by
  refine ⟨by simp, .inr ⟨_, _, rfl, fun i hi => ?_⟩, by simp <;> omega⟩
  have : i = 0 ∨ i = 1 ∨ i = 2 := by simp at hi; omega
  rcases this with rfl | rfl | rfl <;> go_simp

set_option maxRecDepth 100000 in
set_option maxHeartbeats 4000000 in
theorem known4_any (w : World) : Calls Try.prog 16 #[] w (BoolR w true) := by
  have HD := hid (fun w => divide_any (some ⟨w.heap.size, 0, none⟩) [7, 2, 1] 3 6 0 _ (three_ints w 7 2 1 (by omega) (by omega) (by omega)))
  have HE := hid (fun w => divide_any (some ⟨w.heap.size, 0, none⟩) [7, 2, 1] 3 6 1 _ (three_ints w 7 2 1 (by omega) (by omega) (by omega)))
  rw [known_d0, known_e0] at HD
  rw [known_d1, known_e1] at HE
  simp only [List.length_cons, List.length_nil, Nat.zero_add, Nat.reduceAdd, show err true = 0 from rfl] at HD HE
  go_enter Try.func16, Try.ntmps16
  go_wp2_with fail
  refine (HD.out w).mono ?_
  rintro e w1 ⟨q1, A, c, rfl, o1⟩
  have p1 := ((Below.refl w.heap.size w).alloc (Nat.le_refl _) (.cells #[.int .i64 7, .int .i64 2, .int .i64 1] 3)).trans (q1.mono (by simp))
  obtain ⟨_, _, hv, i1⟩ := o1.ints (by simp) (by simp)
  cases hv
  clear o1 q1
  go_wp2_with fail
  refine (HE.out w1).mono ?_
  rintro e w2 ⟨q2, A2, c2, rfl, o2⟩
  have q2 := ((Below.refl w1.heap.size w1).alloc (Nat.le_refl _) (.cells #[.int .i64 7, .int .i64 2, .int .i64 1] 3)).trans (q2.mono (by simp))
  have p2 := p1.trans (q2.mono p1.size)
  obtain ⟨_, _, hv, i2⟩ := o2.ints (by simp) (by simp)
  cases hv
  have i1 := i1.below q2
  clear o2 q2 p1
  go_wp2_with fail
  have q3 := (Below.refl w2.heap.size w2).alloc (Nat.le_refl _) (.cells #[.int .i64 5, .int .i64 1, .int .i64 0] 3)
  have H := same_any A (some ⟨w2.heap.size, 0, none⟩) [5, 1, 0] [5, 1, 0] c 3 _ (i1.below q3) (three_ints w2 5 1 0 (by omega) (by omega) (by omega))
  simp only [List.length_cons, List.length_nil, Nat.zero_add, Nat.reduceAdd] at H
  rw [show sameB [5, 1, 0] [5, 1, 0] = true by decide] at H
  refine H.mono ?_
  clear H
  rintro e w3 ⟨⟨n, hw3⟩, rfl⟩
  have q3 : Below w2.heap.size w2 w3 := by rw [hw3]; exact below_dn q3 _
  clear hw3
  have p3 := p2.trans (q3.mono p2.size)
  have i2 := i2.below q3
  go_wp2_with fail
  have q4 := (Below.refl w3.heap.size w3).alloc (Nat.le_refl _) (.cells #[.int .i64 4, .int .i64 1, .int .i64 1] 3)
  have H := same_any A2 (some ⟨w3.heap.size, 0, none⟩) [4, 1, 1] [4, 1, 1] c2 3 _ (i2.below q4) (three_ints w3 4 1 1 (by omega) (by omega) (by omega))
  simp only [List.length_cons, List.length_nil, Nat.zero_add, Nat.reduceAdd] at H
  rw [show sameB [4, 1, 1] [4, 1, 1] = true by decide] at H
  refine H.mono ?_
  clear H
  rintro e w4 ⟨⟨n, hw4⟩, rfl⟩
  have q4 : Below w3.heap.size w3 w4 := by rw [hw4]; exact below_dn q4 _
  clear hw4
  go_wp2
  go_ret
  exact ⟨p3.trans (q4.mono p3.size), rfl⟩

def longI (l : List Int) : Bool := decide (60 < l.length)
set_option maxHeartbeats 400000 in
theorem long4_any (a : Option Addr) (l : List Int) (cap : Nat) (w : World) (h : l.length ≤ 9223372036854775807) :
  Calls Try.prog 15 #[.slice a l.length cap] w (SaysR w (longI l)) := by
  by_cases hl : 60 < l.length
  · have hl' : (60 : Int) < (l.length : Int) := by omega
    have HS := hid (show longI l = true by simp [longI, hl])
    go_enter Try.func15, Try.ntmps15
    go_wp2
    go_ret
    exact ⟨rfl, ret_bool (by rw [HS.out] <;> simp <;> omega)⟩
  · have hl' : (l.length : Int) ≤ 60 := by omega
    have HS := hid (show longI l = false by simp [longI]; omega)
    go_enter Try.func15, Try.ntmps15
    go_wp2
    go_ret
    exact ⟨rfl, ret_bool (by rw [HS.out] <;> simp <;> omega)⟩

def sumL : List Int → Int
  | [] => 0
  | x :: t => x + sumL t
theorem sumL_app (l m : List Int) : sumL (l ++ m) = sumL l + sumL m := by
  induction l with
  | nil => simp [sumL]
  | cons x t ih => simp [sumL, ih]; omega
theorem sumL_take (l : List Int) (k : Nat) (h : k < l.length) : sumL (l.take (k + 1)) = sumL (l.take k) + l[k]?.getD 0 := by
  rw [List.take_succ_eq_append_getElem h, sumL_app, List.getElem?_eq_getElem h]; simp [sumL]
theorem sumL_bd {lo hi : Int} {l : List Int} (h : ∀ x ∈ l, lo ≤ x ∧ x ≤ hi) : lo * l.length ≤ sumL l ∧ sumL l ≤ hi * l.length := by
  induction l with
  | nil => simp [sumL]
  | cons x t ih =>
    have h1 := h x (by simp)
    have h2 := ih (fun y hy => h y (by simp [hy]))
    have e1 : lo * ((x :: t).length : Int) = lo * (t.length : Int) + lo := by rw [List.length_cons]; push_cast; rw [Int.mul_add]; omega
    have e2 : hi * ((x :: t).length : Int) = hi * (t.length : Int) + hi := by rw [List.length_cons]; push_cast; rw [Int.mul_add]; omega
    rw [e1, e2, sumL]
    omega
set_option maxHeartbeats 1000000 in
theorem total_any (a : Option Addr) (l : List Int) (cap : Nat) (w : World) (h : Ints w a l) (hb : ∀ x ∈ l, -1000000 ≤ x ∧ x ≤ 1000000) (hl : l.length ≤ 1000) :
  Calls Try.prog 24 #[.slice a l.length cap] w (fun en w' => w = w' ∧ en = .returned (.int .i64 (sumL l))) := by
  have HH := hid h
  have HB := hid hb
  clear h hb
  go_enter Try.func24, Try.ntmps24
  go_wp2
  go_loop [3, 4] (fun s i => ∃ (k : Nat), k ≤ l.length ∧ i = .int .i64 k ∧ s = .int .i64 (sumL (l.take k))) (fun _ i => l.length - (intOf i).toNat)
  case atStart => exact ⟨0, Nat.zero_le _, rfl, rfl⟩
  case round =>
    obtain ⟨k, hk, rfl, rfl⟩ := hrel
    by_cases hlt : k < l.length
    · rcases HH.out.at_ with e | ⟨b, off, rfl, hc⟩
      · rw [e] at hlt; simp at hlt
      have g := hc k hlt
      have HT := hid (sumL_take l k hlt)
      have hs := sumL_bd (lo := -1000000) (hi := 1000000) (l := l.take k) (fun x hx => HB.out x (List.mem_of_mem_take hx))
      have hx := HB.out _ (getD_mem l k hlt)
      have htl : (l.take k).length = k := by rw [List.length_take]; omega
      rw [htl] at hs
      clear hc htl
      generalize l[k]?.getD 0 = x at *
      generalize sumL (l.take k) = s at *
      go_wp2
      go_round
      case rel => exact ⟨k + 1, by omega, by go_num, by rw [HT.out]⟩
      case measure => simp [intOf]; omega
    · obtain rfl : k = l.length := by omega
      rw [List.take_length]
      go_wp2
      go_ret
      exact ⟨rfl, rfl⟩
end Go.Proofs.Ytnjaacmcdkiilaa
