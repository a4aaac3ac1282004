/- Least and Most of package menu: their contracts. -/
import Derived.Test.YtkboeldafppicaaNevP
import Derived.Test.YtkboeldafppicaaPlainI
import Derived.Laws.EntriesVeiled
set_option linter.unusedVariables false
set_option linter.unusedSimpArgs false
namespace Go.Proofs.Ytkboeldafppicaa
open Go.RowKit Go.Maps

set_option maxRecDepth 100000 in
set_option maxHeartbeats 2000000 in
theorem ctNext_any (s a e : Int) (hs : 0 ≤ s ∧ s ≤ 21) (c p q : Nat) (w : World) (hp : w.cell? ⟨p, 0, none⟩ = some (.int .i64 a)) (hq : w.cell? ⟨q, 0, none⟩ = some (.int .i64 e)) : Calls Try.prog 134 #[VI s, .int .i64 c, .pointer (some ⟨p, 0, none⟩), .pointer (some ⟨q, 0, none⟩)] w fun r w' => Below w.heap.size w w' ∧ r = .returned (VI (ctN a e s c)) := by
  have hb := hid (fun n => show Below w.heap.size w (w.drewN n) from ⟨(Below.refl w.heap.size w).os, (Below.refl w.heap.size w).tape, (Below.refl w.heap.size w).output, (Below.refl w.heap.size w).size, (Below.refl w.heap.size w).block⟩)
  by_cases h1 : (c : Int) = a
  · have q1 : ((c : Int) == a) = true := by simp [h1]
    by_cases h2 : s < e
    · have E := hid (show ctN a e s c = s + 1 from if_pos ⟨h1, h2⟩)
      clear h1
      unfold VI
      go_enter Try.func134, Try.ntmps134
      go_wp2_with fail
      try go_quiet (fail)
      go_wp2
      refine bodyPost_ret (v := VI (s + 1)) (by simp [VI, results, Try.results134, go_sem]) rfl ⟨by first | exact hb.out _ | exact (Below.refl _ _), by rw [E.out]; rfl⟩
    · have E := hid (show ctN a e s c = s from if_neg (fun h => h2 h.2))
      clear h1
      unfold VI
      go_enter Try.func134, Try.ntmps134
      go_wp2_with fail
      try go_quiet (fail)
      go_wp2
      refine bodyPost_ret (v := VI s) (by simp [VI, results, Try.results134, go_sem]) rfl ⟨by first | exact hb.out _ | exact (Below.refl _ _), by rw [E.out]; rfl⟩
  · have q1 : ((c : Int) == a) = false := by simp [h1]
    have E := hid (show ctN a e s c = s from if_neg (fun h => h1 h.1))
    clear h1
    unfold VI
    go_enter Try.func134, Try.ntmps134
    go_wp2_with fail
    try go_quiet (fail)
    go_wp2
    refine bodyPost_ret (v := VI s) (by simp [VI, results, Try.results134, go_sem]) rfl ⟨by first | exact hb.out _ | exact (Below.refl _ _), by rw [E.out]; rfl⟩
set_option maxRecDepth 100000 in
set_option maxHeartbeats 1000000 in
theorem leK_any (s t : Int) (p : Nat) (w : World) (hp : w.cell? ⟨p, 0, none⟩ = some (.int .i64 t)) : Calls Try.prog 102 #[VI s, .pointer (some ⟨p, 0, none⟩)] w fun e w' => Below w.heap.size w w' ∧ e = .returned (.bool (leK t s)) := by
  have hb := Below.refl w.heap.size w
  by_cases h : t ≤ s
  · have hk := hid (show leK t s = true from decide_eq_true h)
    unfold VI
    go_enter Try.func102, Try.ntmps102
    go_wp2
    go_ret
    exact ⟨hb, by rw [hk.out]; rfl⟩
  · have hk := hid (show leK t s = false from decide_eq_false h)
    unfold VI
    go_enter Try.func102, Try.ntmps102
    go_wp2
    go_ret
    exact ⟨hb, by rw [hk.out]; rfl⟩
set_option maxRecDepth 100000 in
set_option maxHeartbeats 1000000 in
theorem moK_any (s t : Int) (p : Nat) (w : World) (hp : w.cell? ⟨p, 0, none⟩ = some (.int .i64 t)) : Calls Try.prog 104 #[VI s, .pointer (some ⟨p, 0, none⟩)] w fun e w' => Below w.heap.size w w' ∧ e = .returned (.bool (moK t s)) := by
  have hb := Below.refl w.heap.size w
  by_cases h : s ≤ t
  · have hk := hid (show moK t s = true from decide_eq_true h)
    unfold VI
    go_enter Try.func104, Try.ntmps104
    go_wp2
    go_ret
    exact ⟨hb, by rw [hk.out]; rfl⟩
  · have hk := hid (show moK t s = false from decide_eq_false h)
    unfold VI
    go_enter Try.func104, Try.ntmps104
    go_wp2
    go_ret
    exact ⟨hb, by rw [hk.out]; rfl⟩
set_option maxRecDepth 100000 in
set_option maxHeartbeats 2000000 in
theorem countingLeast_any (n a e : Int) (p : Nat) (w : World) : Calls Try.prog 101 #[.int .i64 n, .int .i64 a, .int .i64 e, .func (.func 102) #[] #[.pointer (some ⟨p, 0, none⟩)]] w fun r w' => Below w.heap.size w w' ∧ w'.cell? ⟨w.heap.size, 0, none⟩ = some (.int .i64 a) ∧ w'.cell? ⟨w.heap.size + 1, 0, none⟩ = some (.int .i64 e) ∧ r = .returned (.agg #[.int .i64 n, .int .i64 0, .func (.func 134) #[] #[.pointer (some ⟨w.heap.size, 0, none⟩), .pointer (some ⟨w.heap.size + 1, 0, none⟩)], .func (.func 102) #[] #[.pointer (some ⟨p, 0, none⟩)]]) := by
  go_enter Try.func101, Try.ntmps101
  go_wp2
  have t0 : (((w.alloc (.cells #[.int .i64 a] 3)).alloc (.cells #[.int .i64 e] 3)).alloc (.cells #[.int .i64 n, .int .i64 0, .func (.func 134) #[] #[.pointer (some ⟨w.heap.size, 0, none⟩), .pointer (some ⟨w.heap.size + 1, 0, none⟩)], .func (.func 102) #[] #[.pointer (some ⟨p, 0, none⟩)]] 79)).cell? ⟨w.heap.size + 1 + 1, 0, none⟩ = some (.int .i64 n) := by go_simp
  have t1 : (((w.alloc (.cells #[.int .i64 a] 3)).alloc (.cells #[.int .i64 e] 3)).alloc (.cells #[.int .i64 n, .int .i64 0, .func (.func 134) #[] #[.pointer (some ⟨w.heap.size, 0, none⟩), .pointer (some ⟨w.heap.size + 1, 0, none⟩)], .func (.func 102) #[] #[.pointer (some ⟨p, 0, none⟩)]] 79)).cell? ⟨w.heap.size + 1 + 1, 1, none⟩ = some (.int .i64 0) := by go_simp
  have t2 : (((w.alloc (.cells #[.int .i64 a] 3)).alloc (.cells #[.int .i64 e] 3)).alloc (.cells #[.int .i64 n, .int .i64 0, .func (.func 134) #[] #[.pointer (some ⟨w.heap.size, 0, none⟩), .pointer (some ⟨w.heap.size + 1, 0, none⟩)], .func (.func 102) #[] #[.pointer (some ⟨p, 0, none⟩)]] 79)).cell? ⟨w.heap.size + 1 + 1, 2, none⟩ = some (.func (.func 134) #[] #[.pointer (some ⟨w.heap.size, 0, none⟩), .pointer (some ⟨w.heap.size + 1, 0, none⟩)]) := by go_simp
  have t3 : (((w.alloc (.cells #[.int .i64 a] 3)).alloc (.cells #[.int .i64 e] 3)).alloc (.cells #[.int .i64 n, .int .i64 0, .func (.func 134) #[] #[.pointer (some ⟨w.heap.size, 0, none⟩), .pointer (some ⟨w.heap.size + 1, 0, none⟩)], .func (.func 102) #[] #[.pointer (some ⟨p, 0, none⟩)]] 79)).cell? ⟨w.heap.size + 1 + 1, 3, none⟩ = some (.func (.func 102) #[] #[.pointer (some ⟨p, 0, none⟩)]) := by go_simp
  have u0 : (((w.alloc (.cells #[.int .i64 a] 3)).alloc (.cells #[.int .i64 e] 3)).alloc (.cells #[.int .i64 n, .int .i64 0, .func (.func 134) #[] #[.pointer (some ⟨w.heap.size, 0, none⟩), .pointer (some ⟨w.heap.size + 1, 0, none⟩)], .func (.func 102) #[] #[.pointer (some ⟨p, 0, none⟩)]] 79)).cell? ⟨w.heap.size, 0, none⟩ = some (.int .i64 a) := by go_simp
  have u1 : (((w.alloc (.cells #[.int .i64 a] 3)).alloc (.cells #[.int .i64 e] 3)).alloc (.cells #[.int .i64 n, .int .i64 0, .func (.func 134) #[] #[.pointer (some ⟨w.heap.size, 0, none⟩), .pointer (some ⟨w.heap.size + 1, 0, none⟩)], .func (.func 102) #[] #[.pointer (some ⟨p, 0, none⟩)]] 79)).cell? ⟨w.heap.size + 1, 0, none⟩ = some (.int .i64 e) := by go_simp
  have hbz := hid (show Below w.heap.size w (((w.alloc (.cells #[.int .i64 a] 3)).alloc (.cells #[.int .i64 e] 3)).alloc (.cells #[.int .i64 n, .int .i64 0, .func (.func 134) #[] #[.pointer (some ⟨w.heap.size, 0, none⟩), .pointer (some ⟨w.heap.size + 1, 0, none⟩)], .func (.func 102) #[] #[.pointer (some ⟨p, 0, none⟩)]] 79)) from (((Below.refl _ _).alloc (Nat.le_refl _) _).alloc (by simp) _).alloc (by simp; omega) _)
  generalize (((w.alloc (.cells #[.int .i64 a] 3)).alloc (.cells #[.int .i64 e] 3)).alloc (.cells #[.int .i64 n, .int .i64 0, .func (.func 134) #[] #[.pointer (some ⟨w.heap.size, 0, none⟩), .pointer (some ⟨w.heap.size + 1, 0, none⟩)], .func (.func 102) #[] #[.pointer (some ⟨p, 0, none⟩)]] 79)) = wz at *
  refine bodyPost_ret (v := .agg #[.int .i64 n, .int .i64 0, .func (.func 134) #[] #[.pointer (some ⟨w.heap.size, 0, none⟩), .pointer (some ⟨w.heap.size + 1, 0, none⟩)], .func (.func 102) #[] #[.pointer (some ⟨p, 0, none⟩)]]) (by simp [results, Try.results101, go_sem, t0, t1, t2, t3]) rfl ⟨hbz.out, u0, u1, rfl⟩
set_option maxRecDepth 100000 in
set_option maxHeartbeats 2000000 in
theorem countingMost_any (n a e : Int) (p : Nat) (w : World) : Calls Try.prog 101 #[.int .i64 n, .int .i64 a, .int .i64 e, .func (.func 104) #[] #[.pointer (some ⟨p, 0, none⟩)]] w fun r w' => Below w.heap.size w w' ∧ w'.cell? ⟨w.heap.size, 0, none⟩ = some (.int .i64 a) ∧ w'.cell? ⟨w.heap.size + 1, 0, none⟩ = some (.int .i64 e) ∧ r = .returned (.agg #[.int .i64 n, .int .i64 0, .func (.func 134) #[] #[.pointer (some ⟨w.heap.size, 0, none⟩), .pointer (some ⟨w.heap.size + 1, 0, none⟩)], .func (.func 104) #[] #[.pointer (some ⟨p, 0, none⟩)]]) := by
  go_enter Try.func101, Try.ntmps101
  go_wp2
  have t0 : (((w.alloc (.cells #[.int .i64 a] 3)).alloc (.cells #[.int .i64 e] 3)).alloc (.cells #[.int .i64 n, .int .i64 0, .func (.func 134) #[] #[.pointer (some ⟨w.heap.size, 0, none⟩), .pointer (some ⟨w.heap.size + 1, 0, none⟩)], .func (.func 104) #[] #[.pointer (some ⟨p, 0, none⟩)]] 79)).cell? ⟨w.heap.size + 1 + 1, 0, none⟩ = some (.int .i64 n) := by go_simp
  have t1 : (((w.alloc (.cells #[.int .i64 a] 3)).alloc (.cells #[.int .i64 e] 3)).alloc (.cells #[.int .i64 n, .int .i64 0, .func (.func 134) #[] #[.pointer (some ⟨w.heap.size, 0, none⟩), .pointer (some ⟨w.heap.size + 1, 0, none⟩)], .func (.func 104) #[] #[.pointer (some ⟨p, 0, none⟩)]] 79)).cell? ⟨w.heap.size + 1 + 1, 1, none⟩ = some (.int .i64 0) := by go_simp
  have t2 : (((w.alloc (.cells #[.int .i64 a] 3)).alloc (.cells #[.int .i64 e] 3)).alloc (.cells #[.int .i64 n, .int .i64 0, .func (.func 134) #[] #[.pointer (some ⟨w.heap.size, 0, none⟩), .pointer (some ⟨w.heap.size + 1, 0, none⟩)], .func (.func 104) #[] #[.pointer (some ⟨p, 0, none⟩)]] 79)).cell? ⟨w.heap.size + 1 + 1, 2, none⟩ = some (.func (.func 134) #[] #[.pointer (some ⟨w.heap.size, 0, none⟩), .pointer (some ⟨w.heap.size + 1, 0, none⟩)]) := by go_simp
  have t3 : (((w.alloc (.cells #[.int .i64 a] 3)).alloc (.cells #[.int .i64 e] 3)).alloc (.cells #[.int .i64 n, .int .i64 0, .func (.func 134) #[] #[.pointer (some ⟨w.heap.size, 0, none⟩), .pointer (some ⟨w.heap.size + 1, 0, none⟩)], .func (.func 104) #[] #[.pointer (some ⟨p, 0, none⟩)]] 79)).cell? ⟨w.heap.size + 1 + 1, 3, none⟩ = some (.func (.func 104) #[] #[.pointer (some ⟨p, 0, none⟩)]) := by go_simp
  have u0 : (((w.alloc (.cells #[.int .i64 a] 3)).alloc (.cells #[.int .i64 e] 3)).alloc (.cells #[.int .i64 n, .int .i64 0, .func (.func 134) #[] #[.pointer (some ⟨w.heap.size, 0, none⟩), .pointer (some ⟨w.heap.size + 1, 0, none⟩)], .func (.func 104) #[] #[.pointer (some ⟨p, 0, none⟩)]] 79)).cell? ⟨w.heap.size, 0, none⟩ = some (.int .i64 a) := by go_simp
  have u1 : (((w.alloc (.cells #[.int .i64 a] 3)).alloc (.cells #[.int .i64 e] 3)).alloc (.cells #[.int .i64 n, .int .i64 0, .func (.func 134) #[] #[.pointer (some ⟨w.heap.size, 0, none⟩), .pointer (some ⟨w.heap.size + 1, 0, none⟩)], .func (.func 104) #[] #[.pointer (some ⟨p, 0, none⟩)]] 79)).cell? ⟨w.heap.size + 1, 0, none⟩ = some (.int .i64 e) := by go_simp
  have hbz := hid (show Below w.heap.size w (((w.alloc (.cells #[.int .i64 a] 3)).alloc (.cells #[.int .i64 e] 3)).alloc (.cells #[.int .i64 n, .int .i64 0, .func (.func 134) #[] #[.pointer (some ⟨w.heap.size, 0, none⟩), .pointer (some ⟨w.heap.size + 1, 0, none⟩)], .func (.func 104) #[] #[.pointer (some ⟨p, 0, none⟩)]] 79)) from (((Below.refl _ _).alloc (Nat.le_refl _) _).alloc (by simp) _).alloc (by simp; omega) _)
  generalize (((w.alloc (.cells #[.int .i64 a] 3)).alloc (.cells #[.int .i64 e] 3)).alloc (.cells #[.int .i64 n, .int .i64 0, .func (.func 134) #[] #[.pointer (some ⟨w.heap.size, 0, none⟩), .pointer (some ⟨w.heap.size + 1, 0, none⟩)], .func (.func 104) #[] #[.pointer (some ⟨p, 0, none⟩)]] 79)) = wz at *
  refine bodyPost_ret (v := .agg #[.int .i64 n, .int .i64 0, .func (.func 134) #[] #[.pointer (some ⟨w.heap.size, 0, none⟩), .pointer (some ⟨w.heap.size + 1, 0, none⟩)], .func (.func 104) #[] #[.pointer (some ⟨p, 0, none⟩)]]) (by simp [results, Try.results101, go_sem, t0, t1, t2, t3]) rfl ⟨hbz.out, u0, u1, rfl⟩
set_option maxRecDepth 100000 in
theorem mAreTimes_any (n a t : Int) (w : World) : Calls Try.prog 100 #[.int .i64 n, .int .i64 a, .int .i64 t] w fun e w' => w' = w ∧ e = .returned (.bool (decide (1 ≤ n ∧ n ≤ 6 ∧ 0 ≤ a ∧ a < n ∧ 0 ≤ t ∧ t ≤ 20))) := by
  obtain ⟨R, hR0⟩ : ∃ R, R = decide (1 ≤ n ∧ n ≤ 6 ∧ 0 ≤ a ∧ a < n ∧ 0 ≤ t ∧ t ≤ 20) := ⟨_, rfl⟩
  rw [← hR0]
  have HR0 := hid hR0
  clear hR0
  by_cases h1 : 1 ≤ n ∧ n ≤ 6
  · have q1 : decide (1 ≤ n ∧ n ≤ 6) = true := decide_eq_true h1
    by_cases h2 : 0 ≤ a ∧ a < n
    · have q2 : decide (0 ≤ a ∧ a < n) = true := decide_eq_true h2
      by_cases h3 : 0 ≤ t
      · have q3 : decide (0 ≤ t) = true := decide_eq_true h3
        by_cases h4 : t ≤ 20
        · have E := hid (show R = true from HR0.out.trans (decide_eq_true (by omega)))
          go_enter Try.func100, Try.ntmps100
          go_wp2_with fail
          refine (mIsLetters_any n _).mono ?_
          rintro e w1 ⟨rfl, rfl⟩
          rw [q1]
          go_wp2_with fail
          refine (mIsBelow_any a n _).mono ?_
          rintro e w1 ⟨rfl, rfl⟩
          rw [q2]
          go_wp2
          go_ret
          exact ⟨rfl, by rw [E.out]; rfl⟩
        · have E := hid (show R = false from HR0.out.trans (decide_eq_false (by omega)))
          go_enter Try.func100, Try.ntmps100
          go_wp2_with fail
          refine (mIsLetters_any n _).mono ?_
          rintro e w1 ⟨rfl, rfl⟩
          rw [q1]
          go_wp2_with fail
          refine (mIsBelow_any a n _).mono ?_
          rintro e w1 ⟨rfl, rfl⟩
          rw [q2]
          go_wp2
          go_ret
          exact ⟨rfl, by rw [E.out]; show Ending.returned (.bool (decide (t ≤ 20))) = _; rw [decide_eq_false (by omega)]⟩
      · have E := hid (show R = false from HR0.out.trans (decide_eq_false (by omega)))
        go_enter Try.func100, Try.ntmps100
        go_wp2_with fail
        refine (mIsLetters_any n _).mono ?_
        rintro e w1 ⟨rfl, rfl⟩
        rw [q1]
        go_wp2_with fail
        refine (mIsBelow_any a n _).mono ?_
        rintro e w1 ⟨rfl, rfl⟩
        rw [q2]
        go_wp2
        go_ret
        exact ⟨rfl, by rw [E.out]; rfl⟩
    · have q2 : decide (0 ≤ a ∧ a < n) = false := decide_eq_false h2
      have E := hid (show R = false from HR0.out.trans (decide_eq_false (by omega)))
      go_enter Try.func100, Try.ntmps100
      go_wp2_with fail
      refine (mIsLetters_any n _).mono ?_
      rintro e w1 ⟨rfl, rfl⟩
      rw [q1]
      go_wp2_with fail
      refine (mIsBelow_any a n _).mono ?_
      rintro e w1 ⟨rfl, rfl⟩
      rw [q2]
      go_wp2
      go_ret
      exact ⟨rfl, by rw [E.out]; rfl⟩
  · have q1 : decide (1 ≤ n ∧ n ≤ 6) = false := decide_eq_false h1
    have E := hid (show R = false from HR0.out.trans (decide_eq_false (by omega)))
    go_enter Try.func100, Try.ntmps100
    go_wp2_with fail
    refine (mIsLetters_any n _).mono ?_
    rintro e w1 ⟨rfl, rfl⟩
    rw [q1]
    go_wp2
    go_ret
    exact ⟨rfl, by rw [E.out]; rfl⟩
theorem egCt : (∀ args (w : World), (callFunc 134 args).run Try.prog w = .ok (.enter 134 args) w) ∧ (∀ args (w : World), (callFunc 102 args).run Try.prog w = .ok (.enter 102 args) w) ∧ (∀ args (w : World), (callFunc 104 args).run Try.prog w = .ok (.enter 104 args) w) := ⟨fun _ _ => by kernel_rfl, fun _ _ => by kernel_rfl, fun _ _ => by kernel_rfl⟩
def tmOk (n a t : Int) : Prop := 1 ≤ n ∧ n ≤ 6 ∧ 0 ≤ a ∧ a < n ∧ 0 ≤ t ∧ t ≤ 20
instance (n a b : Int) : Decidable (tmOk n a b) := by unfold tmOk; infer_instance
theorem ctP_next (a e s : Int) (he : 0 ≤ e ∧ e ≤ 21) (c : Nat) (h : 0 ≤ s ∧ s ≤ 21) : 0 ≤ ctN a e s c ∧ ctN a e s c ≤ 21 := by
  unfold ctN; split <;> omega
/-- The languages of Least and Most. -/
noncomputable def leL (n : Nat) (a t : Int) : Lang := langOf n (ctN a t) (leK t) 0
noncomputable def moL (n : Nat) (a t : Int) : Lang := langOf n (ctN a (t + 1)) (moK t) 0
set_option maxRecDepth 100000 in
set_option maxHeartbeats 4000000 in
theorem least_any (n a t : Int) (w : World) : Calls Try.prog 44 #[.int .i64 n, .int .i64 a, .int .i64 t] w fun e w' => Below w.heap.size w w' ∧ ((tmOk n a t ∧ PlainAns w' w.heap.size n.toNat (leL n.toNat a t) e) ∨ (¬ tmOk n a t ∧ e = .returned (.tuple #[machV 0 none 0 0 none 0 0, .int .i64 1]))) := by
  have HA := hid (show Below w.heap.size w ((w.alloc (.cells #[.int .i64 t] 3)).alloc (.cells #[.int .i64 0, .slice none 0 0, .slice none 0 0] 25)) from ((Below.refl _ _).alloc (Nat.le_refl _) _).alloc (by simp) _)
  have hs0 : ((w.alloc (.cells #[.int .i64 t] 3)).alloc (.cells #[.int .i64 0, .slice none 0 0, .slice none 0 0] 25)).heap.size = w.heap.size + 2 := by simp
  have c0 : ((w.alloc (.cells #[.int .i64 t] 3)).alloc (.cells #[.int .i64 0, .slice none 0 0, .slice none 0 0] 25)).cell? ⟨w.heap.size, 0, none⟩ = some (.int .i64 t) := by go_simp
  have C0 := hid c0
  have HZ := hid (fun wx (hb : Below ((w.alloc (.cells #[.int .i64 t] 3)).alloc (.cells #[.int .i64 0, .slice none 0 0, .slice none 0 0] 25)).heap.size ((w.alloc (.cells #[.int .i64 t] 3)).alloc (.cells #[.int .i64 0, .slice none 0 0, .slice none 0 0] 25)) wx) => show wx.cell? ⟨w.heap.size + 1, 0, none⟩ = some (.int .i64 0) ∧ wx.cell? ⟨w.heap.size + 1, 1, none⟩ = some (.slice none 0 0) ∧ wx.cell? ⟨w.heap.size + 1, 2, none⟩ = some (.slice none 0 0) ∧ wx.frozen? ⟨w.heap.size + 1, 0, none⟩ = false ∧ wx.frozen? ⟨w.heap.size + 1, 1, none⟩ = false ∧ wx.frozen? ⟨w.heap.size + 1, 2, none⟩ = false from
    ⟨by rw [hb.cell (by simp)]; go_simp, by rw [hb.cell (by simp)]; go_simp, by rw [hb.cell (by simp)]; go_simp, by rw [hb.frozen (by simp)]; go_simp, by rw [hb.frozen (by simp)]; go_simp, by rw [hb.frozen (by simp)]; go_simp⟩)
  have KT := hid (fun wx => mAreTimes_any n a t wx)
  by_cases hn : tmOk n a t
  · have HOk := hid hn
    have hq : decide (1 ≤ n ∧ n ≤ 6 ∧ 0 ≤ a ∧ a < n ∧ 0 ≤ t ∧ t ≤ 20) = true := decide_eq_true hn
    rw [hq] at KT
    have hnn : ((n.toNat : Nat) : Int) = n := by unfold tmOk at hn; omega
    have ht : 0 ≤ t ∧ t ≤ 20 := by unfold tmOk at hn; omega
    have HP := hid (fun wx (hbx : Below ((w.alloc (.cells #[.int .i64 t] 3)).alloc (.cells #[.int .i64 0, .slice none 0 0, .slice none 0 0] 25)).heap.size ((w.alloc (.cells #[.int .i64 t] 3)).alloc (.cells #[.int .i64 0, .slice none 0 0, .slice none 0 0] 25)) wx) (x0 : wx.cell? ⟨w.heap.size + 2, 0, none⟩ = some (.int .i64 a)) (x1 : wx.cell? ⟨w.heap.size + 2 + 1, 0, none⟩ = some (.int .i64 t)) => plainI_any n.toNat (by unfold tmOk at hn; omega) (by unfold tmOk at hn; omega) 0 (ctN a t) (leK t) (fun s => 0 ≤ s ∧ s ≤ 21) 22 134 102 #[] #[.pointer (some ⟨w.heap.size + 2, 0, none⟩), .pointer (some ⟨w.heap.size + 2 + 1, 0, none⟩)] #[] #[.pointer (some ⟨w.heap.size, 0, none⟩)] wx
      (by omega) (fun s c hs hc => ctP_next a t s (by omega) c hs) (fun s hs => by unfold I64; omega) (fun l hn hl => small_bound 21 l hn hl) (by omega) egCt.1 egCt.2.1
      (fun w' s c hb hs hc => by
        have := ctNext_any s a t hs c (w.heap.size + 2) (w.heap.size + 2 + 1) w' ((hb.cell (cell_lt x0)).trans x0) ((hb.cell (cell_lt x1)).trans x1)
        simpa using this)
      (fun w' s hb hs => by
        have x2 := (hbx.cell (cell_lt C0.out)).trans C0.out
        have := leK_any s t w.heap.size w' ((hb.cell (cell_lt x2)).trans x2)
        simpa using this))
    rw [hnn] at HP
    clear hn hq
    go_enter Try.func44, Try.ntmps44
    go_wp2_with fail
    refine (KT.out _).mono ?_
    rintro e w1 ⟨rfl, rfl⟩
    go_wp2_with fail
    refine (countingLeast_any n a t w.heap.size _).mono ?_
    rintro e w2 ⟨hb2, x0, x1, rfl⟩
    rw [hs0] at x0 x1
    have HP := hid (HP.out w2 hb2 x0 x1)
    have hb2' := hb2
    clear x0 x1
    go_wp2_with fail
    refine HP.out.mono ?_
    rintro e w5 ⟨hb5, i, hF, hans⟩
    have hbb := hb2'.trans (hb5.mono hb2'.size)
    obtain ⟨z0, z1, z2, y0, y1, y2⟩ := HZ.out w5 hbb
    have HB5 := hid (HA.out.trans (hbb.mono HA.out.size))
    have hsz : w.heap.size + 1 < w5.heap.size := cell_lt z0
    have hs2 : w.heap.size + 2 ≤ w2.heap.size := by have := hb2'.size; omega
    have HF := hid hF
    clear hb5 hbb HZ HP hF C0 KT c0 hb2 hb2'
    rcases hans with ⟨h64, rfl⟩ | ⟨h64, Na, nc, Aa, ac, rfl, hM⟩
    · unfold machV
      go_wp2
      have t0 : (((w5.setCell ⟨w.heap.size + 1, 0, none⟩ (.int .i64 0)).setCell ⟨w.heap.size + 1, 1, none⟩ (.slice none 0 0)).setCell ⟨w.heap.size + 1, 2, none⟩ (.slice none 0 0)).cell? ⟨w.heap.size + 1, 0, none⟩ = some (.int .i64 0) := by go_simp
      have t1 : (((w5.setCell ⟨w.heap.size + 1, 0, none⟩ (.int .i64 0)).setCell ⟨w.heap.size + 1, 1, none⟩ (.slice none 0 0)).setCell ⟨w.heap.size + 1, 2, none⟩ (.slice none 0 0)).cell? ⟨w.heap.size + 1, 1, none⟩ = some (.slice none 0 0) := by go_simp
      have t2 : (((w5.setCell ⟨w.heap.size + 1, 0, none⟩ (.int .i64 0)).setCell ⟨w.heap.size + 1, 1, none⟩ (.slice none 0 0)).setCell ⟨w.heap.size + 1, 2, none⟩ (.slice none 0 0)).cell? ⟨w.heap.size + 1, 2, none⟩ = some (.slice none 0 0) := by go_simp
      have HBz := hid (((HB5.out.setCell (p := ⟨w.heap.size + 1, 0, none⟩) (by simp) (.int .i64 0)).setCell (p := ⟨w.heap.size + 1, 1, none⟩) (by simp) (.slice none 0 0)).setCell (p := ⟨w.heap.size + 1, 2, none⟩) (by simp) (.slice none 0 0))
      generalize (((w5.setCell ⟨w.heap.size + 1, 0, none⟩ (.int .i64 0)).setCell ⟨w.heap.size + 1, 1, none⟩ (.slice none 0 0)).setCell ⟨w.heap.size + 1, 2, none⟩ (.slice none 0 0)) = wz at *
      refine bodyPost_ret (v := .tuple #[machV 0 none 0 0 none 0 0, .int .i64 4]) (by simp [machV, results, Try.results44, go_sem, t0, t1, t2]) rfl ⟨HBz.out, .inl ⟨HOk.out, i, HF.out, .inl ⟨h64, rfl⟩⟩⟩
    · unfold machV
      rw [hnn]
      have HM := hid hM
      clear hM
      go_wp2
      have t0 : (((w5.setCell ⟨w.heap.size + 1, 0, none⟩ (.int .i64 n)).setCell ⟨w.heap.size + 1, 1, none⟩ (.slice Na i nc)).setCell ⟨w.heap.size + 1, 2, none⟩ (.slice Aa i ac)).cell? ⟨w.heap.size + 1, 0, none⟩ = some (.int .i64 n) := by go_simp
      have t1 : (((w5.setCell ⟨w.heap.size + 1, 0, none⟩ (.int .i64 n)).setCell ⟨w.heap.size + 1, 1, none⟩ (.slice Na i nc)).setCell ⟨w.heap.size + 1, 2, none⟩ (.slice Aa i ac)).cell? ⟨w.heap.size + 1, 1, none⟩ = some (.slice Na i nc) := by go_simp
      have t2 : (((w5.setCell ⟨w.heap.size + 1, 0, none⟩ (.int .i64 n)).setCell ⟨w.heap.size + 1, 1, none⟩ (.slice Na i nc)).setCell ⟨w.heap.size + 1, 2, none⟩ (.slice Aa i ac)).cell? ⟨w.heap.size + 1, 2, none⟩ = some (.slice Aa i ac) := by go_simp
      have HBz := hid (((HB5.out.setCell (p := ⟨w.heap.size + 1, 0, none⟩) (by simp) (.int .i64 n)).setCell (p := ⟨w.heap.size + 1, 1, none⟩) (by simp) (.slice Na i nc)).setCell (p := ⟨w.heap.size + 1, 2, none⟩) (by simp) (.slice Aa i ac))
      have HMz := hid ((((HM.out.setCell ⟨w.heap.size + 1, 0, none⟩ (.int .i64 n) (by first | omega | (simp; done) | (simp; omega) | (simp at *; omega))).setCell ⟨w.heap.size + 1, 1, none⟩ (.slice Na i nc) (by first | omega | (simp; done) | (simp; omega) | (simp at *; omega))).setCell ⟨w.heap.size + 1, 2, none⟩ (.slice Aa i ac) (by first | omega | (simp; done) | (simp; omega) | (simp at *; omega))).weak (B' := w.heap.size) (by first | omega | (simp; done) | (simp; omega)))
      generalize (((w5.setCell ⟨w.heap.size + 1, 0, none⟩ (.int .i64 n)).setCell ⟨w.heap.size + 1, 1, none⟩ (.slice Na i nc)).setCell ⟨w.heap.size + 1, 2, none⟩ (.slice Aa i ac)) = wz at *
      refine bodyPost_ret (v := .tuple #[machV n Na i nc Aa i ac, .int .i64 0]) (by simp [machV, results, Try.results44, go_sem, t0, t1, t2]) rfl ⟨HBz.out, .inl ⟨HOk.out, i, HF.out, .inr ⟨h64, Na, nc, Aa, ac, by rw [hnn], HMz.out⟩⟩⟩
  · have HNo := hid hn
    have hq : decide (1 ≤ n ∧ n ≤ 6 ∧ 0 ≤ a ∧ a < n ∧ 0 ≤ t ∧ t ≤ 20) = false := decide_eq_false hn
    rw [hq] at KT
    clear hn hq C0 HZ
    go_enter Try.func44, Try.ntmps44
    go_wp2_with fail
    refine (KT.out _).mono ?_
    rintro e w1 ⟨rfl, rfl⟩
    go_wp2
    refine bodyPost_ret (v := .tuple #[machV 0 none 0 0 none 0 0, .int .i64 1]) (by simp [machV, results, Try.results44, go_sem]) rfl ⟨HA.out, .inr ⟨HNo.out, rfl⟩⟩
set_option maxRecDepth 100000 in
set_option maxHeartbeats 4000000 in
theorem most_any (n a t : Int) (w : World) : Calls Try.prog 46 #[.int .i64 n, .int .i64 a, .int .i64 t] w fun e w' => Below w.heap.size w w' ∧ ((tmOk n a t ∧ PlainAns w' w.heap.size n.toNat (moL n.toNat a t) e) ∨ (¬ tmOk n a t ∧ e = .returned (.tuple #[machV 0 none 0 0 none 0 0, .int .i64 1]))) := by
  have HA := hid (show Below w.heap.size w ((w.alloc (.cells #[.int .i64 t] 3)).alloc (.cells #[.int .i64 0, .slice none 0 0, .slice none 0 0] 25)) from ((Below.refl _ _).alloc (Nat.le_refl _) _).alloc (by simp) _)
  have hs0 : ((w.alloc (.cells #[.int .i64 t] 3)).alloc (.cells #[.int .i64 0, .slice none 0 0, .slice none 0 0] 25)).heap.size = w.heap.size + 2 := by simp
  have c0 : ((w.alloc (.cells #[.int .i64 t] 3)).alloc (.cells #[.int .i64 0, .slice none 0 0, .slice none 0 0] 25)).cell? ⟨w.heap.size, 0, none⟩ = some (.int .i64 t) := by go_simp
  have C0 := hid c0
  have HZ := hid (fun wx (hb : Below ((w.alloc (.cells #[.int .i64 t] 3)).alloc (.cells #[.int .i64 0, .slice none 0 0, .slice none 0 0] 25)).heap.size ((w.alloc (.cells #[.int .i64 t] 3)).alloc (.cells #[.int .i64 0, .slice none 0 0, .slice none 0 0] 25)) wx) => show wx.cell? ⟨w.heap.size + 1, 0, none⟩ = some (.int .i64 0) ∧ wx.cell? ⟨w.heap.size + 1, 1, none⟩ = some (.slice none 0 0) ∧ wx.cell? ⟨w.heap.size + 1, 2, none⟩ = some (.slice none 0 0) ∧ wx.frozen? ⟨w.heap.size + 1, 0, none⟩ = false ∧ wx.frozen? ⟨w.heap.size + 1, 1, none⟩ = false ∧ wx.frozen? ⟨w.heap.size + 1, 2, none⟩ = false from
    ⟨by rw [hb.cell (by simp)]; go_simp, by rw [hb.cell (by simp)]; go_simp, by rw [hb.cell (by simp)]; go_simp, by rw [hb.frozen (by simp)]; go_simp, by rw [hb.frozen (by simp)]; go_simp, by rw [hb.frozen (by simp)]; go_simp⟩)
  have KT := hid (fun wx => mAreTimes_any n a t wx)
  by_cases hn : tmOk n a t
  · have HOk := hid hn
    have hq : decide (1 ≤ n ∧ n ≤ 6 ∧ 0 ≤ a ∧ a < n ∧ 0 ≤ t ∧ t ≤ 20) = true := decide_eq_true hn
    rw [hq] at KT
    have hnn : ((n.toNat : Nat) : Int) = n := by unfold tmOk at hn; omega
    have ht : 0 ≤ t ∧ t ≤ 20 := by unfold tmOk at hn; omega
    have HP := hid (fun wx (hbx : Below ((w.alloc (.cells #[.int .i64 t] 3)).alloc (.cells #[.int .i64 0, .slice none 0 0, .slice none 0 0] 25)).heap.size ((w.alloc (.cells #[.int .i64 t] 3)).alloc (.cells #[.int .i64 0, .slice none 0 0, .slice none 0 0] 25)) wx) (x0 : wx.cell? ⟨w.heap.size + 2, 0, none⟩ = some (.int .i64 a)) (x1 : wx.cell? ⟨w.heap.size + 2 + 1, 0, none⟩ = some (.int .i64 (t + 1))) => plainI_any n.toNat (by unfold tmOk at hn; omega) (by unfold tmOk at hn; omega) 0 (ctN a (t + 1)) (moK t) (fun s => 0 ≤ s ∧ s ≤ 21) 22 134 104 #[] #[.pointer (some ⟨w.heap.size + 2, 0, none⟩), .pointer (some ⟨w.heap.size + 2 + 1, 0, none⟩)] #[] #[.pointer (some ⟨w.heap.size, 0, none⟩)] wx
      (by omega) (fun s c hs hc => ctP_next a (t + 1) s (by omega) c hs) (fun s hs => by unfold I64; omega) (fun l hn hl => small_bound 21 l hn hl) (by omega) egCt.1 egCt.2.2
      (fun w' s c hb hs hc => by
        have := ctNext_any s a (t + 1) hs c (w.heap.size + 2) (w.heap.size + 2 + 1) w' ((hb.cell (cell_lt x0)).trans x0) ((hb.cell (cell_lt x1)).trans x1)
        simpa using this)
      (fun w' s hb hs => by
        have x2 := (hbx.cell (cell_lt C0.out)).trans C0.out
        have := moK_any s t w.heap.size w' ((hb.cell (cell_lt x2)).trans x2)
        simpa using this))
    rw [hnn] at HP
    clear hn hq
    go_enter Try.func46, Try.ntmps46
    go_wp2_with fail
    refine (KT.out _).mono ?_
    rintro e w1 ⟨rfl, rfl⟩
    go_wp2_with fail
    refine (countingMost_any n a (t + 1) w.heap.size _).mono ?_
    rintro e w2 ⟨hb2, x0, x1, rfl⟩
    rw [hs0] at x0 x1
    have HP := hid (HP.out w2 hb2 x0 x1)
    have hb2' := hb2
    clear x0 x1
    go_wp2_with fail
    refine HP.out.mono ?_
    rintro e w5 ⟨hb5, i, hF, hans⟩
    have hbb := hb2'.trans (hb5.mono hb2'.size)
    obtain ⟨z0, z1, z2, y0, y1, y2⟩ := HZ.out w5 hbb
    have HB5 := hid (HA.out.trans (hbb.mono HA.out.size))
    have hsz : w.heap.size + 1 < w5.heap.size := cell_lt z0
    have hs2 : w.heap.size + 2 ≤ w2.heap.size := by have := hb2'.size; omega
    have HF := hid hF
    clear hb5 hbb HZ HP hF C0 KT c0 hb2 hb2'
    rcases hans with ⟨h64, rfl⟩ | ⟨h64, Na, nc, Aa, ac, rfl, hM⟩
    · unfold machV
      go_wp2
      have t0 : (((w5.setCell ⟨w.heap.size + 1, 0, none⟩ (.int .i64 0)).setCell ⟨w.heap.size + 1, 1, none⟩ (.slice none 0 0)).setCell ⟨w.heap.size + 1, 2, none⟩ (.slice none 0 0)).cell? ⟨w.heap.size + 1, 0, none⟩ = some (.int .i64 0) := by go_simp
      have t1 : (((w5.setCell ⟨w.heap.size + 1, 0, none⟩ (.int .i64 0)).setCell ⟨w.heap.size + 1, 1, none⟩ (.slice none 0 0)).setCell ⟨w.heap.size + 1, 2, none⟩ (.slice none 0 0)).cell? ⟨w.heap.size + 1, 1, none⟩ = some (.slice none 0 0) := by go_simp
      have t2 : (((w5.setCell ⟨w.heap.size + 1, 0, none⟩ (.int .i64 0)).setCell ⟨w.heap.size + 1, 1, none⟩ (.slice none 0 0)).setCell ⟨w.heap.size + 1, 2, none⟩ (.slice none 0 0)).cell? ⟨w.heap.size + 1, 2, none⟩ = some (.slice none 0 0) := by go_simp
      have HBz := hid (((HB5.out.setCell (p := ⟨w.heap.size + 1, 0, none⟩) (by simp) (.int .i64 0)).setCell (p := ⟨w.heap.size + 1, 1, none⟩) (by simp) (.slice none 0 0)).setCell (p := ⟨w.heap.size + 1, 2, none⟩) (by simp) (.slice none 0 0))
      generalize (((w5.setCell ⟨w.heap.size + 1, 0, none⟩ (.int .i64 0)).setCell ⟨w.heap.size + 1, 1, none⟩ (.slice none 0 0)).setCell ⟨w.heap.size + 1, 2, none⟩ (.slice none 0 0)) = wz at *
      refine bodyPost_ret (v := .tuple #[machV 0 none 0 0 none 0 0, .int .i64 4]) (by simp [machV, results, Try.results46, go_sem, t0, t1, t2]) rfl ⟨HBz.out, .inl ⟨HOk.out, i, HF.out, .inl ⟨h64, rfl⟩⟩⟩
    · unfold machV
      rw [hnn]
      have HM := hid hM
      clear hM
      go_wp2
      have t0 : (((w5.setCell ⟨w.heap.size + 1, 0, none⟩ (.int .i64 n)).setCell ⟨w.heap.size + 1, 1, none⟩ (.slice Na i nc)).setCell ⟨w.heap.size + 1, 2, none⟩ (.slice Aa i ac)).cell? ⟨w.heap.size + 1, 0, none⟩ = some (.int .i64 n) := by go_simp
      have t1 : (((w5.setCell ⟨w.heap.size + 1, 0, none⟩ (.int .i64 n)).setCell ⟨w.heap.size + 1, 1, none⟩ (.slice Na i nc)).setCell ⟨w.heap.size + 1, 2, none⟩ (.slice Aa i ac)).cell? ⟨w.heap.size + 1, 1, none⟩ = some (.slice Na i nc) := by go_simp
      have t2 : (((w5.setCell ⟨w.heap.size + 1, 0, none⟩ (.int .i64 n)).setCell ⟨w.heap.size + 1, 1, none⟩ (.slice Na i nc)).setCell ⟨w.heap.size + 1, 2, none⟩ (.slice Aa i ac)).cell? ⟨w.heap.size + 1, 2, none⟩ = some (.slice Aa i ac) := by go_simp
      have HBz := hid (((HB5.out.setCell (p := ⟨w.heap.size + 1, 0, none⟩) (by simp) (.int .i64 n)).setCell (p := ⟨w.heap.size + 1, 1, none⟩) (by simp) (.slice Na i nc)).setCell (p := ⟨w.heap.size + 1, 2, none⟩) (by simp) (.slice Aa i ac))
      have HMz := hid ((((HM.out.setCell ⟨w.heap.size + 1, 0, none⟩ (.int .i64 n) (by first | omega | (simp; done) | (simp; omega) | (simp at *; omega))).setCell ⟨w.heap.size + 1, 1, none⟩ (.slice Na i nc) (by first | omega | (simp; done) | (simp; omega) | (simp at *; omega))).setCell ⟨w.heap.size + 1, 2, none⟩ (.slice Aa i ac) (by first | omega | (simp; done) | (simp; omega) | (simp at *; omega))).weak (B' := w.heap.size) (by first | omega | (simp; done) | (simp; omega)))
      generalize (((w5.setCell ⟨w.heap.size + 1, 0, none⟩ (.int .i64 n)).setCell ⟨w.heap.size + 1, 1, none⟩ (.slice Na i nc)).setCell ⟨w.heap.size + 1, 2, none⟩ (.slice Aa i ac)) = wz at *
      refine bodyPost_ret (v := .tuple #[machV n Na i nc Aa i ac, .int .i64 0]) (by simp [machV, results, Try.results46, go_sem, t0, t1, t2]) rfl ⟨HBz.out, .inl ⟨HOk.out, i, HF.out, .inr ⟨h64, Na, nc, Aa, ac, by rw [hnn], HMz.out⟩⟩⟩
  · have HNo := hid hn
    have hq : decide (1 ≤ n ∧ n ≤ 6 ∧ 0 ≤ a ∧ a < n ∧ 0 ≤ t ∧ t ≤ 20) = false := decide_eq_false hn
    rw [hq] at KT
    clear hn hq C0 HZ
    go_enter Try.func46, Try.ntmps46
    go_wp2_with fail
    refine (KT.out _).mono ?_
    rintro e w1 ⟨rfl, rfl⟩
    go_wp2
    refine bodyPost_ret (v := .tuple #[machV 0 none 0 0 none 0 0, .int .i64 1]) (by simp [machV, results, Try.results46, go_sem]) rfl ⟨HA.out, .inr ⟨HNo.out, rfl⟩⟩
end Go.Proofs.Ytkboeldafppicaa
