/- Questions and lists of steps that came in. -/
import Derived.Test.YtdgleicpcjfnoaaOpenB
import Derived.Test.YtdgleicpcjfnoaaOpenS
import Derived.Test.YtdgleicpcjfnoaaSteps
set_option linter.unusedVariables false
namespace Go.Proofs.Ytdgleicpcjfnoaa
open Go.ChangeShapes Go.WideShapes Go.ChangeAt Go.RowKit Go.Joins Go.Deep

theorem ty_all2 {fs : Array Field} (h : fs.all (fun f => f.type == 3) = true) : ∀ (j : Nat) (f : Field), fs[j]? = some f → f.type = 3 := by
  intro j f hj
  rw [Array.all_eq_true] at h
  obtain ⟨hl, rfl⟩ := Array.getElem?_eq_some_iff.1 hj
  simpa using h j hl
theorem pick_list2 {α : Type} (n : Nat) (P : Nat → α → Prop) (d : α) (h : ∀ i, i < n → ∃ x, P i x) : ∃ l : List α, l.length = n ∧ ∀ i, i < n → P i (l[i]?.getD d) := by
  induction n with
  | zero => exact ⟨[], rfl, fun i hi => by omega⟩
  | succ n ih =>
    obtain ⟨l, h1, h2⟩ := ih (fun i hi => h i (by omega))
    obtain ⟨x, hx⟩ := h n (by omega)
    refine ⟨l ++ [x], by simp [h1], fun i hi => ?_⟩
    rcases Nat.lt_or_ge i n with hh | hh
    · rw [List.getElem?_append_left (by omega)]; exact h2 i hh
    · obtain rfl : i = n := by omega
      rw [List.getElem?_append_right (by omega), h1]
      simpa using hx
theorem arr2 {cs : Array Value} (h : cs.size = 2) {x y : Value} (h0 : cs[0]? = some x) (h1 : cs[1]? = some y) : cs = #[x, y] := by
  obtain ⟨l⟩ := cs
  match l, h with
  | [a, b], _ => simp at h0 h1; rw [h0, h1]
set_option maxRecDepth 100000 in
theorem open_ask {H : Type} {enc : TypeId × Value → H} {W : World} {r : Go.Reach} {b0 : Nat} {v : Value} {d : DataW H} {p : List MemPlace} (hv : Value.okWide Try.prog W r b0 41 v) (h : DataW.Trod enc Try.prog W 0 (fun _ => true) true 41 v d p) :
    ∃ (x y : Int), v = .agg #[.int .i64 x, .int .i64 y] ∧ (-9223372036854775808 ≤ x ∧ x ≤ 9223372036854775807) ∧ (-9223372036854775808 ≤ y ∧ y ≤ 9223372036854775807) := by
  obtain ⟨cs, rfl, hsz, hc⟩ := open_int_agg Try.underlying41 (by kernel_rfl) (ty_all2 (by kernel_rfl)) (by kernel_rfl) hv h
  obtain ⟨x, e0, w0⟩ := hc 0 (by decide)
  obtain ⟨y, e1, w1⟩ := hc 1 (by decide)
  exact ⟨x, y, by rw [arr2 hsz e0 e1], w0, w1⟩
set_option maxRecDepth 100000 in
theorem open_steps {H : Type} {enc : TypeId × Value → H} {W : World} {r : Go.Reach} {b0 : Nat} {v : Value} {d : DataW H} {p : List MemPlace} (hv : Value.okWide Try.prog W r b0 42 v)
    (h : DataW.Trod enc Try.prog W 0 (fun _ => true) true 42 v d p) :
    ∃ (a : Option Addr) (l : List StepL) (cap : Nat), v = .slice a l.length cap ∧ (l.length ≤ 9223372036854775807 ∧ l.length ≤ cap) ∧ (l.length ≤ 140737488355328 → StepsAt W a l) := by
  obtain ⟨a, len, cap, rfl, hl, hm, hc⟩ := open_int_rows Try.underlying42 Try.underlying53 (by kernel_rfl) (ty_all2 (by kernel_rfl)) (by kernel_rfl) hv h
  rcases hc with rfl | ⟨⟨b, off, spot⟩, rfl, hc⟩
  · exact ⟨a, [], cap, rfl, by simp, fun _ => ⟨by simp, .inl rfl⟩⟩
  · obtain ⟨l, h1, h2⟩ := pick_list2 (α := StepL) len (fun i f => ∀ j, j < 3 → W.cell? ((⟨b, off, spot⟩ : Addr).add (i * 3 + j)) = some (.int .i64 (match j with | 0 => f.1 | 1 => f.2.1 | _ => f.2.2))) (0, 0, 0) (fun i hi => by
      obtain ⟨z0, e0, _⟩ := hc i hi 0 (by decide)
      obtain ⟨z1, e1, _⟩ := hc i hi 1 (by decide)
      obtain ⟨z2, e2, _⟩ := hc i hi 2 (by decide)
      refine ⟨(z0, z1, z2), fun j hj => ?_⟩
      match j, hj with
      | 0, _ => exact e0
      | 1, _ => exact e1
      | 2, _ => exact e2)
    refine ⟨_, l, cap, by rw [h1], by omega, fun hb => ⟨hb, ?_⟩⟩
    by_cases h0 : len = 0
    · left; exact List.eq_nil_of_length_eq_zero (by omega)
    · right
      have hspot : spot = none := by simpa [Addr.add] using World.cell?_spot (h2 0 (by omega) 0 (by omega))
      subst hspot
      refine ⟨b, off, rfl, fun i hi => ?_⟩
      have g0 := h2 i (by omega) 0 (by omega)
      have g1 := h2 i (by omega) 1 (by omega)
      have g2 := h2 i (by omega) 2 (by omega)
      rw [place_add] at g0 g1 g2
      exact ⟨by simpa using g0, by rw [Nat.add_assoc]; exact g1, by rw [Nat.add_assoc]; exact g2⟩
end Go.Proofs.Ytdgleicpcjfnoaa
