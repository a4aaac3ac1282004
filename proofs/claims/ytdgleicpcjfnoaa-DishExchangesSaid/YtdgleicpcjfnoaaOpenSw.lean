/- Lists of swaps that came in. -/
import Derived.Test.YtdgleicpcjfnoaaOpenB
import Derived.Test.YtdgleicpcjfnoaaOpenS
import Derived.Test.YtdgleicpcjfnoaaSwapR
set_option linter.unusedVariables false
namespace Go.Proofs.Ytdgleicpcjfnoaa
open Go.ChangeShapes Go.WideShapes Go.ChangeAt Go.RowKit Go.Joins Go.Deep

theorem ty_allW {fs : Array Field} (h : fs.all (fun f => f.type == 3) = true) : ∀ (j : Nat) (f : Field), fs[j]? = some f → f.type = 3 := by
  intro j f hj
  rw [Array.all_eq_true] at h
  obtain ⟨hl, rfl⟩ := Array.getElem?_eq_some_iff.1 hj
  simpa using h j hl
set_option maxRecDepth 100000 in
theorem open_swaps {H : Type} {enc : TypeId × Value → H} {W : World} {r : Go.Reach} {b0 : Nat} {v : Value} {d : DataW H} {p : List MemPlace} (hv : Value.okWide Try.prog W r b0 63 v)
    (h : DataW.Trod enc Try.prog W 0 (fun _ => true) true 63 v d p) :
    ∃ (a : Option Addr) (l : List (Int × Int)) (cap : Nat), v = .slice a l.length cap ∧ (l.length ≤ 9223372036854775807 ∧ l.length ≤ cap) ∧ (l.length ≤ 140737488355328 → SwAt W a l) := by
  obtain ⟨a, len, cap, rfl, hl, hm, hc⟩ := open_int_rows Try.underlying63 Try.underlying71 (by kernel_rfl) (ty_allW (by kernel_rfl)) (by kernel_rfl) hv h
  rcases hc with rfl | ⟨⟨b, off, spot⟩, rfl, hc⟩
  · exact ⟨a, [], cap, rfl, by simp, fun _ => ⟨by simp, .inl rfl⟩⟩
  · obtain ⟨l, h1, h2⟩ := list_of ((0, 0) : Int × Int) len (fun i f => ∀ j, j < 2 → W.cell? ((⟨b, off, spot⟩ : Addr).add (i * 2 + j)) = some (.int .i64 (match j with | 0 => f.1 | _ => f.2))) (fun i hi => by
      obtain ⟨z0, e0, _⟩ := hc i hi 0 (by decide)
      obtain ⟨z1, e1, _⟩ := hc i hi 1 (by decide)
      refine ⟨(z0, z1), fun j hj => ?_⟩
      match j, hj with
      | 0, _ => exact e0
      | 1, _ => exact e1)
    refine ⟨_, l, cap, by rw [h1], by omega, fun hb => ⟨hb, ?_⟩⟩
    by_cases h0 : len = 0
    · left; exact List.eq_nil_of_length_eq_zero (by omega)
    · right
      have hspot : spot = none := by simpa [Addr.add] using World.cell?_spot (h2 0 (by omega) 0 (by omega))
      subst hspot
      refine ⟨b, off, rfl, fun i hi => ?_⟩
      have g0 := h2 i (by omega) 0 (by omega)
      have g1 := h2 i (by omega) 1 (by omega)
      rw [addB_none] at g0 g1
      exact ⟨by simpa using g0, by rw [Nat.add_assoc]; exact g1⟩
end Go.Proofs.Ytdgleicpcjfnoaa
