/- Stops, a tour and a begin that came in; which are many: the laws of chapter 8. -/
import Derived.Test.YtbffdpcogfmomaaVaDe
import Derived.Test.YtbffdpcogfmomaaVaLg
import Derived.Test.YtbffdpcogfmomaaOpenS
set_option linter.unusedVariables false
namespace Go.Proofs.Ytbffdpcogfmomaa
open Go.ChangeShapes Go.WideShapes Go.ChangeAt Go.RowKit Go.Joins Go.Deep

theorem ty_all8 {fs : Array Field} (h : fs.all (fun f => f.type == 3) = true) : ∀ (j : Nat) (f : Field), fs[j]? = some f → f.type = 3 := by
  intro j f hj
  rw [Array.all_eq_true] at h
  obtain ⟨hl, rfl⟩ := Array.getElem?_eq_some_iff.1 hj
  simpa using h j hl
theorem pick_list8 {α : Type} (n : Nat) (P : Nat → α → Prop) (d : α) (h : ∀ i, i < n → ∃ x, P i x) : ∃ l : List α, l.length = n ∧ ∀ i, i < n → P i (l[i]?.getD d) := by
  induction n with
  | zero => exact ⟨[], rfl, fun i hi => by omega⟩
  | succ n ih =>
    obtain ⟨l, h1, h2⟩ := ih (fun i hi => h i (by omega))
    obtain ⟨x, hx⟩ := h n (by omega)
    refine ⟨l ++ [x], by simp [h1], fun i hi => ?_⟩
    rcases Nat.lt_or_ge i n with hh | hh
    · rw [List.getElem?_append_left (by omega)]; exact h2 i hh
    · obtain rfl : i = n := by omega
      rw [List.getElem?_append_right (by omega), h1]
      simpa using hx
section
variable {H : Type} {enc : TypeId × Value → H} {W : World}
set_option maxRecDepth 100000 in
theorem open_rows8 {t e : TypeId} {fs : Array Field} {fuel : Nat} {v : Value} {y : DataW H × List MemPlace} (ht : Try.prog.underlying t = some (.slice e)) (hs : Try.prog.underlying e = some (.struct fs)) (hone : oneCellFields Try.prog fs = true) (hty : ∀ (j : Nat) (f : Field), fs[j]? = some f → f.type = 3)
    (hC : Try.prog.cellsOf e = fs.size) (hf : DataW.trod enc Try.prog W 0 (fun _ => true) true fuel t [v] = some y) :
    ∃ (a : Option Addr) (len cap : Nat), v = .slice a len cap ∧ len ≤ cap ∧ cap ≤ 9223372036854775807 ∧
      (len = 0 ∨ ∃ a', a = some a' ∧ ∀ i, i < len → ∀ j, j < fs.size → ∃ z : Int, W.cell? (a'.add (i * fs.size + j)) = some (.int .i64 z) ∧ -9223372036854775808 ≤ z ∧ z ≤ 9223372036854775807) := by
  rcases open_slice ht hf with ⟨hc, _⟩ | ⟨a, len, cap, m, n, D, Pl, hc, _, hl, hm, hmm, _, hi⟩
  · simp at hc
    exact ⟨none, 0, 0, hc, Nat.le_refl _, by omega, .inl rfl⟩
  · simp at hc hmm
    unfold maxLen at hm
    refine ⟨some a, len, cap, hc, hl, by omega, .inr ⟨a, rfl, fun i hil j hj => ?_⟩⟩
    obtain ⟨cs', hcs, ht'⟩ := hi i (by omega)
    rw [hC] at hcs
    obtain ⟨_, hcl, hat⟩ := World.cells?_some hcs
    have hcell := hat j hj
    have hj' : j < cs'.length := by omega
    rw [List.getElem?_eq_getElem hj'] at hcell
    obtain ⟨z, ez, hz⟩ := int_fields hs hone hty hcl ht' cs'[j] (List.getElem_mem hj')
    exact ⟨z, by rw [← Go.Deep.add_add, hcell, ez], hz⟩
end
theorem rows_stops {W : World} {a : Option Addr} {len : Nat} (hc : len = 0 ∨ ∃ a', a = some a' ∧ ∀ i, i < len → ∀ j, j < 4 → ∃ z : Int, W.cell? (a'.add (i * 4 + j)) = some (.int .i64 z) ∧ -9223372036854775808 ≤ z ∧ z ≤ 9223372036854775807) :
    ∃ r : List St, r.length = len ∧ (r.length ≤ 140737488355328 → StsAt W a r) := by
  rcases hc with rfl | ⟨⟨b, off, spot⟩, rfl, hc⟩
  · exact ⟨[], rfl, fun _ => ⟨by simp, .inl rfl, by simp⟩⟩
  · obtain ⟨r, h1, h2⟩ := pick_list8 (α := St) len (fun i f => (∀ j, j < 4 → W.cell? ((⟨b, off, spot⟩ : Addr).add (i * 4 + j)) = some (.int .i64 (match j with | 0 => f.op | 1 => f.cl | 2 => f.sy | _ => f.bx))) ∧ i64B f.op ∧ i64B f.cl ∧ i64B f.sy ∧ i64B f.bx) ⟨0, 0, 0, 0⟩ (fun i hi => by
      obtain ⟨z0, e0, w0⟩ := hc i hi 0 (by decide)
      obtain ⟨z1, e1, w1⟩ := hc i hi 1 (by decide)
      obtain ⟨z2, e2, w2⟩ := hc i hi 2 (by decide)
      obtain ⟨z3, e3, w3⟩ := hc i hi 3 (by decide)
      refine ⟨⟨z0, z1, z2, z3⟩, fun j hj => ?_, w0, w1, w2, w3⟩
      match j, hj with
      | 0, _ => exact e0
      | 1, _ => exact e1
      | 2, _ => exact e2
      | 3, _ => exact e3)
    refine ⟨r, h1, fun hb => ⟨hb, ?_, fun x hx => ?_⟩⟩
    · by_cases h0 : len = 0
      · left; exact List.eq_nil_of_length_eq_zero (by omega)
      · right
        have hspot : spot = none := by simpa [Addr.add] using World.cell?_spot ((h2 0 (by omega)).1 0 (by omega))
        subst hspot
        refine ⟨b, off, rfl, fun i hi => ?_⟩
        have g0 := (h2 i (by omega)).1 0 (by omega)
        have g1 := (h2 i (by omega)).1 1 (by omega)
        have g2 := (h2 i (by omega)).1 2 (by omega)
        have g3 := (h2 i (by omega)).1 3 (by omega)
        rw [place_add] at g0 g1 g2 g3
        refine ⟨by simpa [stAt] using g0, by rw [Nat.add_assoc]; exact g1, by rw [Nat.add_assoc]; exact g2, by rw [Nat.add_assoc]; exact g3⟩
    · obtain ⟨i, hi, rfl⟩ := List.getElem_of_mem hx
      have := (h2 i (by omega)).2
      rw [List.getElem?_eq_getElem hi] at this
      exact this
set_option maxRecDepth 100000 in
theorem open_trip {H : Type} {enc : TypeId × Value → H} {W : World} {r : Go.Reach} {b0 : Nat} {v : Value} {d : DataW H} {p : List MemPlace} (hv : Value.okWide Try.prog W r b0 49 v)
    (h : DataW.Trod enc Try.prog W 0 (fun _ => true) true 49 v d p) :
    ∃ (A : Option Addr) (l : List St) (c : Nat) (B : Option Addr) (o : List Int) (d : Nat) (b : Int), v = .agg #[.slice A l.length c, .slice B o.length d, .int .i64 b] ∧ l.length ≤ 9223372036854775807 ∧ (l.length ≤ 140737488355328 → StsAt W A l) ∧ o.length ≤ 9223372036854775807 ∧ (o.length ≤ 140737488355328 → Ints W B o) ∧ (-9223372036854775808 ≤ b ∧ b ≤ 9223372036854775807) := by
  obtain ⟨c0, c1, c2, y0, y1, y2, m, rfl, _, _, hy0, hy1, hy2⟩ := open_agg3 Try.underlying49 (by kernel_rfl) (by kernel_rfl) hv h
  obtain ⟨ra, len, rc, rfl, hl, hm, hc⟩ := open_rows8 Try.underlying47 Try.underlying105 (by kernel_rfl) (ty_all8 (by kernel_rfl)) (by kernel_rfl) hy0
  obtain ⟨rs, h1, h2⟩ := rows_stops hc
  obtain ⟨pa, ps, pc, rfl, l1, k1⟩ := open_ints_at hy1
  obtain ⟨z, e2, _, wz⟩ := DataW.trod_int Try.underlying3 hy2
  simp at e2
  subst e2
  exact ⟨ra, rs, rc, pa, ps, pc, z, by rw [h1], by omega, h2, l1, k1, wf_i64 wz⟩
set_option maxRecDepth 100000 in
set_option maxHeartbeats 2000000 in
theorem many_any (A B : Option Addr) (n m c d : Nat) (b : Int) (w : World) (hn : n ≤ 9223372036854775807) (hm : m ≤ 9223372036854775807) : Calls Try.prog 41 #[.agg #[.slice A n c, .slice B m d, .int .i64 b]] w (fun en w' => en = .returned (.bool (decide (60 < n) || decide (60 < m))) ∧ Below w.heap.size w w') := by
  have HB := hid ((Below.refl w.heap.size w).alloc (Nat.le_refl _) (.cells #[.slice A n c, .slice B m d, .int .i64 b] 49))
  by_cases h1 : 60 < n
  · have h1' : (60 : Int) < (n : Int) := by omega
    rw [decide_eq_true h1]
    clear h1
    go_enter Try.func41, Try.ntmps41
    go_wp2
    go_ret
    exact ⟨by first | rfl | (apply ret_bool; simp; omega), HB.out⟩
  · have h1' : (n : Int) ≤ 60 := by omega
    rw [decide_eq_false h1]
    clear h1
    by_cases h2 : 60 < m
    · have h2' : (60 : Int) < (m : Int) := by omega
      rw [decide_eq_true h2]
      clear h2
      go_enter Try.func41, Try.ntmps41
      go_wp2
      go_ret
      exact ⟨by first | rfl | (apply ret_bool; simp; omega), HB.out⟩
    · have h2' : (m : Int) ≤ 60 := by omega
      rw [decide_eq_false h2]
      clear h2
      go_enter Try.func41, Try.ntmps41
      go_wp2
      go_ret
      exact ⟨by first | rfl | (apply ret_bool; simp; omega), HB.out⟩
theorem blk_keep {w w' : World} {g : Nat} {ob : Obj} (h : w.heap[g]? = some ob) (hb : Below w.heap.size w w') : w'.heap[g]? = some ob := (hb.block g (lt_block h)).trans h
theorem blk_fresh {w w1 : World} {ob : Obj} (hb : Below (w.heap.size + 1) (w.alloc ob) w1) : w1.heap[w.heap.size]? = some ob := (hb.block w.heap.size (Nat.lt_succ_self _)).trans (heap_alloc_new w ob)
end Go.Proofs.Ytbffdpcogfmomaa
