/- The arguments of the laws of chapter 7, opened. -/
import Derived.Test.YthogliblgcccnaaOpenS
import Derived.Test.YthogliblgcccnaaOpenI
import Derived.Test.YthogliblgcccnaaKiA
set_option linter.unusedVariables false
namespace Go.Proofs.Ythogliblgcccnaa
open Go.ChangeShapes Go.WideShapes Go.ChangeAt Go.RowKit Go.Joins Go.Deep

theorem ty_all {fs : Array Field} (h : fs.all (fun f => f.type == 3) = true) : ∀ (j : Nat) (f : Field), fs[j]? = some f → f.type = 3 := by
  intro j f hj
  rw [Array.all_eq_true] at h
  obtain ⟨hl, rfl⟩ := Array.getElem?_eq_some_iff.1 hj
  simpa using h j hl
theorem pick_list {α : Type} (n : Nat) (P : Nat → α → Prop) (d : α) (h : ∀ i, i < n → ∃ x, P i x) : ∃ l : List α, l.length = n ∧ ∀ i, i < n → P i (l[i]?.getD d) := by
  induction n with
  | zero => exact ⟨[], rfl, fun i hi => by omega⟩
  | succ n ih =>
    obtain ⟨l, h1, h2⟩ := ih (fun i hi => h i (by omega))
    obtain ⟨x, hx⟩ := h n (by omega)
    refine ⟨l ++ [x], by simp [h1], fun i hi => ?_⟩
    rcases Nat.lt_or_ge i n with hh | hh
    · rw [List.getElem?_append_left (by omega)]; exact h2 i hh
    · obtain rfl : i = n := by omega
      rw [List.getElem?_append_right (by omega), h1]
      simpa using hx
set_option maxRecDepth 100000 in
theorem open_batches {H : Type} {enc : TypeId × Value → H} {W : World} {r : Reach} {b0 : Nat} {v : Value} {d : DataW H} {p : List MemPlace} (hv : Value.okWide Try.prog W r b0 22 v)
    (h : DataW.Trod enc Try.prog W 0 (fun _ => true) true 22 v d p) :
    ∃ (a : Option Addr) (l : List Bt) (cap : Nat), v = .slice a l.length cap ∧ l.length ≤ 9223372036854775807 ∧ l.length ≤ cap ∧ (l.length ≤ 140737488355328 → Bts W a l) := by
  obtain ⟨a, len, cap, rfl, hl, hm, hc⟩ := open_int_rows Try.underlying22 Try.underlying40 (by kernel_rfl) (ty_all (by kernel_rfl)) (by kernel_rfl) hv h
  rcases hc with rfl | ⟨⟨b, off, spot⟩, rfl, hc⟩
  · exact ⟨a, [], cap, rfl, by simp, by simp, fun _ => ⟨by simp, .inl rfl, by simp⟩⟩
  · obtain ⟨l, h1, h2⟩ := pick_list (α := Bt) len (fun i f => (W.cell? ((⟨b, off, spot⟩ : Addr).add (i * 2 + 0)) = some (.int .i64 f.1) ∧ W.cell? ((⟨b, off, spot⟩ : Addr).add (i * 2 + 1)) = some (.int .i64 f.2)) ∧ (-9223372036854775808 ≤ f.1 ∧ f.1 ≤ 9223372036854775807) ∧ -9223372036854775808 ≤ f.2 ∧ f.2 ≤ 9223372036854775807) (0, 0) (fun i hi => by
      obtain ⟨z0, e0, w0⟩ := hc i hi 0 (by decide)
      obtain ⟨z1, e1, w1⟩ := hc i hi 1 (by decide)
      exact ⟨(z0, z1), ⟨e0, e1⟩, w0, w1⟩)
    refine ⟨_, l, cap, by rw [h1], by omega, by omega, fun hb => ⟨hb, ?_, fun x hx => ?_⟩⟩
    · by_cases h0 : len = 0
      · left; exact List.eq_nil_of_length_eq_zero (by omega)
      · right
        have hspot : spot = none := by simpa [Addr.add] using World.cell?_spot (h2 0 (by omega)).1.1
        subst hspot
        refine ⟨b, off, rfl, fun i hi => ?_⟩
        obtain ⟨⟨g0, g1⟩, _⟩ := h2 i (by omega)
        rw [place_add] at g0 g1
        exact ⟨by simpa [btAt] using g0, by rw [Nat.add_assoc]; exact g1⟩
    · obtain ⟨i, hi, rfl⟩ := List.getElem_of_mem hx
      have := (h2 i (by omega)).2
      rw [List.getElem?_eq_getElem hi] at this
      exact this
theorem arr2 {cs : Array Value} (h : cs.size = 2) {x y : Value} (h0 : cs[0]? = some x) (h1 : cs[1]? = some y) : cs = #[x, y] := by
  obtain ⟨l⟩ := cs
  match l, h with
  | [a, b], _ => simp at h0 h1; rw [h0, h1]
theorem arr6 {cs : Array Value} (h : cs.size = 6) {x y z u v s : Value} (h0 : cs[0]? = some x) (h1 : cs[1]? = some y) (h2 : cs[2]? = some z) (h3 : cs[3]? = some u) (h4 : cs[4]? = some v) (h5 : cs[5]? = some s) : cs = #[x, y, z, u, v, s] := by
  obtain ⟨l⟩ := cs
  match l, h with
  | [a, b, c, d, e, f], _ => simp at h0 h1 h2 h3 h4 h5; rw [h0, h1, h2, h3, h4, h5]
set_option maxRecDepth 100000 in
theorem open_batch {H : Type} {enc : TypeId × Value → H} {W : World} {r : Reach} {b0 : Nat} {v : Value} {d : DataW H} {p : List MemPlace} (hv : Value.okWide Try.prog W r b0 40 v) (h : DataW.Trod enc Try.prog W 0 (fun _ => true) true 40 v d p) :
    ∃ (x y : Int), v = .agg #[.int .i64 x, .int .i64 y] ∧ (-9223372036854775808 ≤ x ∧ x ≤ 9223372036854775807) ∧ (-9223372036854775808 ≤ y ∧ y ≤ 9223372036854775807) := by
  obtain ⟨cs, rfl, hsz, hc⟩ := open_int_agg Try.underlying40 (by kernel_rfl) (ty_all (by kernel_rfl)) (by kernel_rfl) hv h
  obtain ⟨x, e0, w0⟩ := hc 0 (by decide)
  obtain ⟨y, e1, w1⟩ := hc 1 (by decide)
  exact ⟨x, y, by rw [arr2 hsz e0 e1], w0, w1⟩
set_option maxRecDepth 100000 in
theorem open_heat {H : Type} {enc : TypeId × Value → H} {W : World} {r : Reach} {b0 : Nat} {v : Value} {d : DataW H} {p : List MemPlace} (hv : Value.okWide Try.prog W r b0 55 v) (h : DataW.Trod enc Try.prog W 0 (fun _ => true) true 55 v d p) :
    ∃ (x y z u s t : Int), v = .agg #[.int .i64 x, .int .i64 y, .int .i64 z, .int .i64 u, .int .i64 s, .int .i64 t] ∧ (-9223372036854775808 ≤ x ∧ x ≤ 9223372036854775807) ∧ (-9223372036854775808 ≤ y ∧ y ≤ 9223372036854775807) ∧ (-9223372036854775808 ≤ z ∧ z ≤ 9223372036854775807) ∧ (-9223372036854775808 ≤ u ∧ u ≤ 9223372036854775807) ∧ (-9223372036854775808 ≤ s ∧ s ≤ 9223372036854775807) ∧ (-9223372036854775808 ≤ t ∧ t ≤ 9223372036854775807) := by
  obtain ⟨cs, rfl, hsz, hc⟩ := open_int_agg Try.underlying55 (by kernel_rfl) (ty_all (by kernel_rfl)) (by kernel_rfl) hv h
  obtain ⟨x, e0, w0⟩ := hc 0 (by decide)
  obtain ⟨y, e1, w1⟩ := hc 1 (by decide)
  obtain ⟨z, e2, w2⟩ := hc 2 (by decide)
  obtain ⟨u, e3, w3⟩ := hc 3 (by decide)
  obtain ⟨s, e4, w4⟩ := hc 4 (by decide)
  obtain ⟨t, e5, w5⟩ := hc 5 (by decide)
  exact ⟨x, y, z, u, s, t, by rw [arr6 hsz e0 e1 e2 e3 e4 e5], w0, w1, w2, w3, w4, w5⟩
end Go.Proofs.Ythogliblgcccnaa
