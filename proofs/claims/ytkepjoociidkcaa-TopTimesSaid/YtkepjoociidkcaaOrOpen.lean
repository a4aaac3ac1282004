/- The arguments of the laws of chapter 5, opened. -/
import Derived.Test.YtkepjoociidkcaaOpenS
import Derived.Test.YtkepjoociidkcaaOrF
set_option linter.unusedVariables false
namespace Go.Proofs.Ytkepjoociidkcaa
open Go.ChangeShapes Go.WideShapes Go.ChangeAt Go.RowKit Go.Joins Go.Deep

theorem ty_all {fs : Array Field} (h : fs.all (fun f => f.type == 3) = true) : ∀ (j : Nat) (f : Field), fs[j]? = some f → f.type = 3 := by
  intro j f hj
  rw [Array.all_eq_true] at h
  obtain ⟨hl, rfl⟩ := Array.getElem?_eq_some_iff.1 hj
  simpa using h j hl
/-- The numbers of a row of places of memory, as lists. -/
theorem pick_list {α : Type} (n : Nat) (P : Nat → α → Prop) (d : α) (h : ∀ i, i < n → ∃ x, P i x) : ∃ l : List α, l.length = n ∧ ∀ i, i < n → P i (l[i]?.getD d) := by
  induction n with
  | zero => exact ⟨[], rfl, fun i hi => by omega⟩
  | succ n ih =>
    obtain ⟨l, h1, h2⟩ := ih (fun i hi => h i (by omega))
    obtain ⟨x, hx⟩ := h n (by omega)
    refine ⟨l ++ [x], by simp [h1], fun i hi => ?_⟩
    rcases Nat.lt_or_ge i n with hh | hh
    · rw [List.getElem?_append_left (by omega)]; exact h2 i hh
    · obtain rfl : i = n := by omega
      rw [List.getElem?_append_right (by omega), h1]
      simpa using hx
set_option maxRecDepth 100000 in
theorem open_facts {H : Type} {enc : TypeId × Value → H} {W : World} {r : Reach} {b0 : Nat} {v : Value} {d : DataW H} {p : List MemPlace} (hv : Value.okWide Try.prog W r b0 22 v)
    (h : DataW.Trod enc Try.prog W 0 (fun _ => true) true 22 v d p) :
    ∃ (a : Option Addr) (l : List Fct) (cap : Nat), v = .slice a l.length cap ∧ l.length ≤ 9223372036854775807 ∧ l.length ≤ cap ∧ (l.length ≤ 140737488355328 → FactsAt W a l) := by
  obtain ⟨a, len, cap, rfl, hl, hm, hc⟩ := open_int_rows Try.underlying22 Try.underlying24 (by kernel_rfl) (ty_all (by kernel_rfl)) (by kernel_rfl) hv h
  rcases hc with rfl | ⟨⟨b, off, spot⟩, rfl, hc⟩
  · exact ⟨a, [], cap, rfl, by simp, by simp, fun _ => ⟨by simp, .inl rfl⟩⟩
  · obtain ⟨l, h1, h2⟩ := pick_list (α := Fct) len (fun i f => ∀ j, j < 5 → W.cell? ((⟨b, off, spot⟩ : Addr).add (i * 5 + j)) = some (.int .i64 (match j with | 0 => f.a | 1 => f.c | 2 => f.f | 3 => f.t | _ => f.m))) fct0 (fun i hi => by
      obtain ⟨z0, e0, _⟩ := hc i hi 0 (by decide)
      obtain ⟨z1, e1, _⟩ := hc i hi 1 (by decide)
      obtain ⟨z2, e2, _⟩ := hc i hi 2 (by decide)
      obtain ⟨z3, e3, _⟩ := hc i hi 3 (by decide)
      obtain ⟨z4, e4, _⟩ := hc i hi 4 (by decide)
      refine ⟨⟨z0, z1, z2, z3, z4⟩, fun j hj => ?_⟩
      match j, hj with
      | 0, _ => exact e0
      | 1, _ => exact e1
      | 2, _ => exact e2
      | 3, _ => exact e3
      | 4, _ => exact e4)
    refine ⟨_, l, cap, by rw [h1], by omega, by omega, fun hb => ⟨hb, ?_⟩⟩
    by_cases h0 : len = 0
    · left; exact List.eq_nil_of_length_eq_zero (by omega)
    · right
      have hspot : spot = none := by simpa [Addr.add] using World.cell?_spot (h2 0 (by omega) 0 (by omega))
      subst hspot
      refine ⟨b, off, rfl, fun i hi => ?_⟩
      have g0 := h2 i (by omega) 0 (by omega)
      have g1 := h2 i (by omega) 1 (by omega)
      have g2 := h2 i (by omega) 2 (by omega)
      have g3 := h2 i (by omega) 3 (by omega)
      have g4 := h2 i (by omega) 4 (by omega)
      rw [place_add] at g0 g1 g2 g3 g4
      refine ⟨by simpa [fAt] using g0, by rw [Nat.add_assoc]; exact g1, by rw [Nat.add_assoc]; exact g2, by rw [Nat.add_assoc]; exact g3, by rw [Nat.add_assoc]; exact g4⟩
theorem arr3 {cs : Array Value} (h : cs.size = 3) {x y z : Value} (h0 : cs[0]? = some x) (h1 : cs[1]? = some y) (h2 : cs[2]? = some z) : cs = #[x, y, z] := by
  obtain ⟨l⟩ := cs
  match l, h with
  | [a, b, c], _ => simp at h0 h1 h2; rw [h0, h1, h2]
theorem arr4 {cs : Array Value} (h : cs.size = 4) {x y z u : Value} (h0 : cs[0]? = some x) (h1 : cs[1]? = some y) (h2 : cs[2]? = some z) (h3 : cs[3]? = some u) : cs = #[x, y, z, u] := by
  obtain ⟨l⟩ := cs
  match l, h with
  | [a, b, c, d], _ => simp at h0 h1 h2 h3; rw [h0, h1, h2, h3]
theorem arr5 {cs : Array Value} (h : cs.size = 5) {x y z u v : Value} (h0 : cs[0]? = some x) (h1 : cs[1]? = some y) (h2 : cs[2]? = some z) (h3 : cs[3]? = some u) (h4 : cs[4]? = some v) : cs = #[x, y, z, u, v] := by
  obtain ⟨l⟩ := cs
  match l, h with
  | [a, b, c, d, e], _ => simp at h0 h1 h2 h3 h4; rw [h0, h1, h2, h3, h4]
set_option maxRecDepth 100000 in
theorem open_ask5 {H : Type} {enc : TypeId × Value → H} {W : World} {r : Reach} {b0 : Nat} {v : Value} {d : DataW H} {p : List MemPlace} (hv : Value.okWide Try.prog W r b0 36 v) (h : DataW.Trod enc Try.prog W 0 (fun _ => true) true 36 v d p) :
    ∃ (x y z : Int), v = .agg #[.int .i64 x, .int .i64 y, .int .i64 z] ∧ (-9223372036854775808 ≤ x ∧ x ≤ 9223372036854775807) ∧ (-9223372036854775808 ≤ y ∧ y ≤ 9223372036854775807) ∧ (-9223372036854775808 ≤ z ∧ z ≤ 9223372036854775807) := by
  obtain ⟨cs, rfl, hsz, hc⟩ := open_int_agg Try.underlying36 (by kernel_rfl) (ty_all (by kernel_rfl)) (by kernel_rfl) hv h
  obtain ⟨x, e0, w0⟩ := hc 0 (by decide)
  obtain ⟨y, e1, w1⟩ := hc 1 (by decide)
  obtain ⟨z, e2, w2⟩ := hc 2 (by decide)
  exact ⟨x, y, z, by rw [arr3 hsz e0 e1 e2], w0, w1, w2⟩
set_option maxRecDepth 100000 in
theorem open_fact {H : Type} {enc : TypeId × Value → H} {W : World} {r : Reach} {b0 : Nat} {v : Value} {d : DataW H} {p : List MemPlace} (hv : Value.okWide Try.prog W r b0 24 v) (h : DataW.Trod enc Try.prog W 0 (fun _ => true) true 24 v d p) :
    ∃ (x y z u s : Int), v = .agg #[.int .i64 x, .int .i64 y, .int .i64 z, .int .i64 u, .int .i64 s] ∧ (-9223372036854775808 ≤ x ∧ x ≤ 9223372036854775807) ∧ (-9223372036854775808 ≤ y ∧ y ≤ 9223372036854775807) ∧ (-9223372036854775808 ≤ z ∧ z ≤ 9223372036854775807) ∧ (-9223372036854775808 ≤ u ∧ u ≤ 9223372036854775807) ∧ (-9223372036854775808 ≤ s ∧ s ≤ 9223372036854775807) := by
  obtain ⟨cs, rfl, hsz, hc⟩ := open_int_agg Try.underlying24 (by kernel_rfl) (ty_all (by kernel_rfl)) (by kernel_rfl) hv h
  obtain ⟨x, e0, w0⟩ := hc 0 (by decide)
  obtain ⟨y, e1, w1⟩ := hc 1 (by decide)
  obtain ⟨z, e2, w2⟩ := hc 2 (by decide)
  obtain ⟨u, e3, w3⟩ := hc 3 (by decide)
  obtain ⟨s, e4, w4⟩ := hc 4 (by decide)
  exact ⟨x, y, z, u, s, by rw [arr5 hsz e0 e1 e2 e3 e4], w0, w1, w2, w3, w4⟩
set_option maxRecDepth 100000 in
theorem open_change5 {H : Type} {enc : TypeId × Value → H} {W : World} {r : Reach} {b0 : Nat} {v : Value} {d : DataW H} {p : List MemPlace} (hv : Value.okWide Try.prog W r b0 47 v) (h : DataW.Trod enc Try.prog W 0 (fun _ => true) true 47 v d p) :
    ∃ (x y z : Int), v = .agg #[.int .i64 x, .int .i64 y, .int .i64 z] ∧ (-9223372036854775808 ≤ x ∧ x ≤ 9223372036854775807) ∧ (-9223372036854775808 ≤ y ∧ y ≤ 9223372036854775807) ∧ (-9223372036854775808 ≤ z ∧ z ≤ 9223372036854775807) := by
  obtain ⟨cs, rfl, hsz, hc⟩ := open_int_agg Try.underlying47 (by kernel_rfl) (ty_all (by kernel_rfl)) (by kernel_rfl) hv h
  obtain ⟨x, e0, w0⟩ := hc 0 (by decide)
  obtain ⟨y, e1, w1⟩ := hc 1 (by decide)
  obtain ⟨z, e2, w2⟩ := hc 2 (by decide)
  exact ⟨x, y, z, by rw [arr3 hsz e0 e1 e2], w0, w1, w2⟩
end Go.Proofs.Ytkepjoociidkcaa
