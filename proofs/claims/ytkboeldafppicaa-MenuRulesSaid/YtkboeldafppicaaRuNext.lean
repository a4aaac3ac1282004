/- What the document's rules remember of a word: next, keeps; as keys of maps. -/
import Derived.Test.YtkboeldafppicaaKeys
import Derived.Test.YtkboeldafppicaaLstI
import Derived.Test.YtkboeldafppicaaCntP
set_option linter.unusedVariables false
set_option linter.unusedSimpArgs false
namespace Go.Proofs.Ytkboeldafppicaa
open Go.RowKit Go.Maps

abbrev R4 := Int × Int × Int × Bool
def V4 (s : R4) : Value := .agg #[.int .i64 s.1, .int .i64 s.2.1, .int .i64 s.2.2.1, .bool s.2.2.2]
def cl4 (s : R4) : List Value := [.int .i64 s.1, .int .i64 s.2.1, .int .i64 s.2.2.1, .bool s.2.2.2]
theorem V4_inj : ∀ s t, V4 s = V4 t → s = t := by
  rintro ⟨a, b, c, d⟩ ⟨a', b', c', d'⟩ h
  simp only [V4, Value.agg.injEq, Array.mk.injEq, List.cons.injEq, Value.int.injEq, Value.bool.injEq, true_and, and_true] at h
  obtain ⟨rfl, rfl, rfl, rfl⟩ := h
  rfl
theorem r4_info : (Try.prog.info? 137).map (fun i => (i.zero, i.size, i.bytes)) = some (some (.agg #[.int .i64 0, .int .i64 0, .int .i64 0, .bool false]), 4, 32) := by kernel_rfl
theorem cl4_len (s : R4) : (cl4 s).length = 4 := rfl
theorem flat4_at (l : List R4) (i : Nat) (s : R4) (h : l[i]? = some s) : (l.flatMap cl4)[i * 4]? = some (.int .i64 s.1) ∧ (l.flatMap cl4)[i * 4 + 1]? = some (.int .i64 s.2.1) ∧ (l.flatMap cl4)[i * 4 + 2]? = some (.int .i64 s.2.2.1) ∧ (l.flatMap cl4)[i * 4 + 3]? = some (.bool s.2.2.2) := by
  induction l generalizing i with
  | nil => simp at h
  | cons x t ih =>
    cases i with
    | zero => simp at h; subst h; simp [cl4]
    | succ i =>
      have := ih i (by simpa using h)
      have e1 : (i + 1) * 4 = i * 4 + 4 := by omega
      rw [e1]
      simpa [cl4] using this
theorem law_r4 : Keyed Try.prog 137 := Keyed.of_law (deep_law_laid laidOutB (m := 2) (by omega) (of_decide_eq_true (by kernel_rfl)) (by kernel_rfl) (by kernel_rfl))
theorem r4_key : Try.prog.keyType 137 = true := by kernel_rfl
theorem r4_cells : Try.prog.cellsOf 137 = 4 := by kernel_rfl
theorem key_r4 (a b c : Int) (l : Bool) (ha : I64 a) (hb : I64 b) (hc : I64 c) : ∃ kl, keyOf Try.prog 137 (.agg #[.int .i64 a, .int .i64 b, .int .i64 c, .bool l]) = some kl := by
  have h1 := wf_of a ha
  have h2 := wf_of b hb
  have h3 := wf_of c hc
  obtain ⟨n, hn⟩ := types_size
  refine keyOf_lits Try.underlying137 r4_key r4_cells.symm (ls := [[.int .i64 a], [.int .i64 b], [.int .i64 c], [.bool l]].flatten) ?_
  refine keyLits_struct Try.underlying137 (by kernel_rfl) (by rw [r4_cells]; rfl) ?_
  simp only [List.mapM_cons, List.mapM_nil, hn]
  simp [cells3, cells4, keyLits_int Try.underlying3 h1, keyLits_int Try.underlying3 h2, keyLits_int Try.underlying3 h3, keyLits_bool Try.underlying4]

/-- Whether a rule is broken by one more letter. -/
def br0 (a : Int) (s : R4) (c : Int) : Bool := s.2.2.2 || (decide (2 ≤ a) && decide (c = s.1)) || (decide (3 ≤ a) && decide (c = s.2.1))
def br3 (a b : Int) (s : R4) (c : Int) : Bool := s.2.2.2 || (decide (s.1 = a) && decide (c = b))
/-- What a rule remembers behind a letter. -/
def nx4 (kind a b : Int) (s : R4) (c : Nat) : R4 :=
  if kind = 0 then ((c : Int), s.1, 0, br0 a s c)
  else if kind = 3 then ((c : Int), -1, 0, br3 a b s c)
  else if (c : Int) = a then (s.1, s.2.1, min (s.2.2.1 + 1) 21, s.2.2.2) else s
def kp4 (kind b : Int) (s : R4) : Bool :=
  if kind = 1 then decide (b ≤ s.2.2.1) else if kind = 2 then decide (s.2.2.1 ≤ b) else !s.2.2.2
set_option maxRecDepth 100000 in
set_option maxHeartbeats 4000000 in
theorem rNext_any (kind n a b : Int) (s : R4) (c : Nat) (w : World) (hk : kind = 0 ∨ kind = 1 ∨ kind = 2 ∨ kind = 3) (ht : 0 ≤ s.2.2.1 ∧ s.2.2.1 ≤ 21) : Calls Try.prog 130 #[.agg #[.int .i64 kind, .int .i64 n, .int .i64 a, .int .i64 b], V4 s, .int .i64 c] w fun e w' => Below w.heap.size w w' ∧ e = .returned (V4 (nx4 kind a b s c)) := by
  obtain ⟨p, q, t, l⟩ := s
  dsimp only at ht
  have HA := hid (fun o1 o2 => (((Below.refl w.heap.size w).alloc (Nat.le_refl _) (.cells #[.int .i64 kind, .int .i64 n, .int .i64 a, .int .i64 b] 109)).alloc (by simp) o1).alloc (by simp; omega) o2)
  unfold V4
  rcases hk with rfl | rfl | rfl | rfl
  · cases l with
    | true =>
      have E := hid (show nx4 0 a b (p, q, t, true) c = ((c : Int), p, 0, true) from by simp [nx4, br0])
      go_enter Try.func130, Try.ntmps130
      go_wp2
      refine bodyPost_ret (v := V4 ((c : Int), p, 0, true)) (by simp [V4, results, Try.results130, go_sem]) rfl ⟨HA.out _ _, by rw [E.out]; rfl⟩
    | false =>
      by_cases h2 : 2 ≤ a
      · by_cases e1 : (c : Int) = p
        · have E := hid (show nx4 0 a b (p, q, t, false) c = ((c : Int), p, 0, true) from by simp [nx4, br0, h2, e1])
          have q1 : ((c : Int) == p) = true := by simp [e1]
          clear e1
          go_enter Try.func130, Try.ntmps130
          go_wp2
          refine bodyPost_ret (v := V4 ((c : Int), p, 0, true)) (by simp [V4, results, Try.results130, go_sem]) rfl ⟨HA.out _ _, by rw [E.out]; rfl⟩
        · have q1 : ((c : Int) == p) = false := by simp [e1]
          by_cases h3 : 3 ≤ a
          · by_cases e2 : (c : Int) = q
            · have E := hid (show nx4 0 a b (p, q, t, false) c = ((c : Int), p, 0, true) from by simp [nx4, br0, h3, e2])
              have q2 : ((c : Int) == q) = true := by simp [e2]
              clear e1 e2
              go_enter Try.func130, Try.ntmps130
              go_wp2
              refine bodyPost_ret (v := V4 ((c : Int), p, 0, true)) (by simp [V4, results, Try.results130, go_sem]) rfl ⟨HA.out _ _, by rw [E.out]; rfl⟩
            · have E := hid (show nx4 0 a b (p, q, t, false) c = ((c : Int), p, 0, false) from by simp [nx4, br0, e1, e2])
              have q2 : ((c : Int) == q) = false := by simp [e2]
              clear e1 e2
              go_enter Try.func130, Try.ntmps130
              go_wp2
              refine bodyPost_ret (v := V4 ((c : Int), p, 0, false)) (by simp [V4, results, Try.results130, go_sem]) rfl ⟨HA.out _ _, by rw [E.out]; rfl⟩
          · have E := hid (show nx4 0 a b (p, q, t, false) c = ((c : Int), p, 0, false) from by simp [nx4, br0, e1, h3])
            clear e1
            go_enter Try.func130, Try.ntmps130
            go_wp2
            refine bodyPost_ret (v := V4 ((c : Int), p, 0, false)) (by simp [V4, results, Try.results130, go_sem]) rfl ⟨HA.out _ _, by rw [E.out]; rfl⟩
      · have h3 : ¬ 3 ≤ a := by omega
        have E := hid (show nx4 0 a b (p, q, t, false) c = ((c : Int), p, 0, false) from by simp [nx4, br0, h2, h3])
        go_enter Try.func130, Try.ntmps130
        go_wp2
        refine bodyPost_ret (v := V4 ((c : Int), p, 0, false)) (by simp [V4, results, Try.results130, go_sem]) rfl ⟨HA.out _ _, by rw [E.out]; rfl⟩
  · by_cases e1 : (c : Int) = a
    · have q1 : ((c : Int) == a) = true := by simp [e1]
      by_cases h1 : t + 1 ≤ 21
      · have E := hid (show nx4 1 a b (p, q, t, l) c = (p, q, t + 1, l) from by
          unfold nx4; rw [if_neg (by decide), if_neg (by decide), if_pos e1, show min (t + 1) 21 = t + 1 by omega])
        clear e1
        go_enter Try.func130, Try.ntmps130
        go_wp2
        refine bodyPost_ret (v := V4 (p, q, t + 1, l)) (by simp [V4, results, Try.results130, go_sem]) rfl ⟨HA.out _ _, by rw [E.out]; rfl⟩
      · have E := hid (show nx4 1 a b (p, q, t, l) c = (p, q, 21, l) from by
          unfold nx4; rw [if_neg (by decide), if_neg (by decide), if_pos e1, show min (t + 1) 21 = 21 by omega])
        clear e1
        go_enter Try.func130, Try.ntmps130
        go_wp2
        refine bodyPost_ret (v := V4 (p, q, 21, l)) (by simp [V4, results, Try.results130, go_sem]) rfl ⟨HA.out _ _, by rw [E.out]; rfl⟩
    · have q1 : ((c : Int) == a) = false := by simp [e1]
      have E := hid (show nx4 1 a b (p, q, t, l) c = (p, q, t, l) from by
        unfold nx4; rw [if_neg (by decide), if_neg (by decide), if_neg e1])
      clear e1
      go_enter Try.func130, Try.ntmps130
      go_wp2
      refine bodyPost_ret (v := V4 (p, q, t, l)) (by simp [V4, results, Try.results130, go_sem]) rfl ⟨HA.out _ _, by rw [E.out]; rfl⟩
  · by_cases e1 : (c : Int) = a
    · have q1 : ((c : Int) == a) = true := by simp [e1]
      by_cases h1 : t + 1 ≤ 21
      · have E := hid (show nx4 2 a b (p, q, t, l) c = (p, q, t + 1, l) from by
          unfold nx4; rw [if_neg (by decide), if_neg (by decide), if_pos e1, show min (t + 1) 21 = t + 1 by omega])
        clear e1
        go_enter Try.func130, Try.ntmps130
        go_wp2
        refine bodyPost_ret (v := V4 (p, q, t + 1, l)) (by simp [V4, results, Try.results130, go_sem]) rfl ⟨HA.out _ _, by rw [E.out]; rfl⟩
      · have E := hid (show nx4 2 a b (p, q, t, l) c = (p, q, 21, l) from by
          unfold nx4; rw [if_neg (by decide), if_neg (by decide), if_pos e1, show min (t + 1) 21 = 21 by omega])
        clear e1
        go_enter Try.func130, Try.ntmps130
        go_wp2
        refine bodyPost_ret (v := V4 (p, q, 21, l)) (by simp [V4, results, Try.results130, go_sem]) rfl ⟨HA.out _ _, by rw [E.out]; rfl⟩
    · have q1 : ((c : Int) == a) = false := by simp [e1]
      have E := hid (show nx4 2 a b (p, q, t, l) c = (p, q, t, l) from by
        unfold nx4; rw [if_neg (by decide), if_neg (by decide), if_neg e1])
      clear e1
      go_enter Try.func130, Try.ntmps130
      go_wp2
      refine bodyPost_ret (v := V4 (p, q, t, l)) (by simp [V4, results, Try.results130, go_sem]) rfl ⟨HA.out _ _, by rw [E.out]; rfl⟩
  · cases l with
    | true =>
      have E := hid (show nx4 3 a b (p, q, t, true) c = ((c : Int), -1, 0, true) from by simp [nx4, br3])
      go_enter Try.func130, Try.ntmps130
      go_wp2
      refine bodyPost_ret (v := V4 ((c : Int), -1, 0, true)) (by simp [V4, results, Try.results130, go_sem]) rfl ⟨HA.out _ _, by rw [E.out]; rfl⟩
    | false =>
      by_cases e1 : p = a
      · have q1 : (p == a) = true := by simp [e1]
        by_cases e2 : (c : Int) = b
        · have E := hid (show nx4 3 a b (p, q, t, false) c = ((c : Int), -1, 0, true) from by simp [nx4, br3, e1, e2])
          have q2 : ((c : Int) == b) = true := by simp [e2]
          clear e1 e2
          go_enter Try.func130, Try.ntmps130
          go_wp2
          refine bodyPost_ret (v := V4 ((c : Int), -1, 0, true)) (by simp [V4, results, Try.results130, go_sem]) rfl ⟨HA.out _ _, by rw [E.out]; rfl⟩
        · have E := hid (show nx4 3 a b (p, q, t, false) c = ((c : Int), -1, 0, false) from by simp [nx4, br3, e2])
          have q2 : ((c : Int) == b) = false := by simp [e2]
          clear e1 e2
          go_enter Try.func130, Try.ntmps130
          go_wp2
          refine bodyPost_ret (v := V4 ((c : Int), -1, 0, false)) (by simp [V4, results, Try.results130, go_sem]) rfl ⟨HA.out _ _, by rw [E.out]; rfl⟩
      · have q1 : (p == a) = false := by simp [e1]
        have E := hid (show nx4 3 a b (p, q, t, false) c = ((c : Int), -1, 0, false) from by simp [nx4, br3, e1])
        clear e1
        go_enter Try.func130, Try.ntmps130
        go_wp2
        refine bodyPost_ret (v := V4 ((c : Int), -1, 0, false)) (by simp [V4, results, Try.results130, go_sem]) rfl ⟨HA.out _ _, by rw [E.out]; rfl⟩
set_option maxRecDepth 100000 in
set_option maxHeartbeats 4000000 in
theorem rKeeps_any (kind n a b : Int) (s : R4) (w : World) (hk : kind = 0 ∨ kind = 1 ∨ kind = 2 ∨ kind = 3) : Calls Try.prog 131 #[.agg #[.int .i64 kind, .int .i64 n, .int .i64 a, .int .i64 b], V4 s] w fun e w' => Below w.heap.size w w' ∧ e = .returned (.bool (kp4 kind b s)) := by
  obtain ⟨p, q, t, l⟩ := s
  have HA := hid (((Below.refl w.heap.size w).alloc (Nat.le_refl _) (.cells #[.int .i64 kind, .int .i64 n, .int .i64 a, .int .i64 b] 109)).alloc (by simp) (.cells #[.int .i64 p, .int .i64 q, .int .i64 t, .bool l] 137))
  unfold V4
  rcases hk with rfl | rfl | rfl | rfl
  · have E := hid (show kp4 0 b (p, q, t, l) = !l from rfl)
    go_enter Try.func131, Try.ntmps131
    go_wp2
    go_ret
    exact ⟨HA.out, by rw [E.out]; rfl⟩
  · by_cases h : b ≤ t
    · have E := hid (show kp4 1 b (p, q, t, l) = true from decide_eq_true h)
      go_enter Try.func131, Try.ntmps131
      go_wp2
      go_ret
      exact ⟨HA.out, by rw [E.out]; rfl⟩
    · have E := hid (show kp4 1 b (p, q, t, l) = false from decide_eq_false h)
      go_enter Try.func131, Try.ntmps131
      go_wp2
      go_ret
      exact ⟨HA.out, by rw [E.out]; rfl⟩
  · by_cases h : t ≤ b
    · have E := hid (show kp4 2 b (p, q, t, l) = true from decide_eq_true h)
      go_enter Try.func131, Try.ntmps131
      go_wp2
      go_ret
      exact ⟨HA.out, by rw [E.out]; rfl⟩
    · have E := hid (show kp4 2 b (p, q, t, l) = false from decide_eq_false h)
      go_enter Try.func131, Try.ntmps131
      go_wp2
      go_ret
      exact ⟨HA.out, by rw [E.out]; rfl⟩
  · have E := hid (show kp4 3 b (p, q, t, l) = !l from rfl)
    go_enter Try.func131, Try.ntmps131
    go_wp2
    go_ret
    exact ⟨HA.out, by rw [E.out]; rfl⟩
end Go.Proofs.Ytkboeldafppicaa
