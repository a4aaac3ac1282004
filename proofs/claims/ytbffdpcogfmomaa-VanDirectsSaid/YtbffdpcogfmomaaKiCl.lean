/- The library's Clone at lists of int. -/
import Derived.Test.YtbffdpcogfmomaaRowsI
import Derived.Shelf.Slices.Clone
import Derived.Shelf.Slices.Cells
set_option linter.unusedVariables false
namespace Go.Proofs.Ytbffdpcogfmomaa
open Go.RowKit

def clRen : Go.Shelf.Ren := ⟨fun | 15 => 89 | n => n, fun | 22 => 23 | n => n, fun | n => n⟩
theorem cloneLays : Go.Proofs.Lays2.n15 Try.prog clRen := {
  mixed := by kernel_rfl
  f15 := Try.func89.trans (congrArg some (by kernel_rfl))
  t3 := Try.underlying3
  a3 := Try.isAgg3
  z3 := Try.sizeOf3
  v3 := Try.zeroValue3
  t4 := Try.underlying4
  a4 := Try.isAgg4
  z4 := Try.sizeOf4
  v4 := Try.zeroValue4
  t22 := Try.underlying23
  a22 := Try.isAgg23
  z22 := Try.sizeOf23
  v22 := Try.zeroValue23
  i3 := int_info }
/-- What Clone answers: a slice of the call's own. -/
def CloneV (w0 : World) (xs : List Int) (en : Ending) (w' : World) : Prop := Below w0.heap.size w0 w' ∧ ∃ A c, en = .returned (.slice A xs.length c) ∧ Ints w' A xs ∧ ∀ ad, A = some ad → w0.heap.size ≤ ad.block ∧ ad.block < w'.heap.size
theorem own_far {w : World} {base : Nat} {A : Option Addr} {n c : Nat} {xs : List Int} (h : Own w base (.slice A n c) xs) : ∀ ad, A = some ad → base ≤ ad.block ∧ ad.block < w.heap.size := by
  intro ad had
  rcases h.2 with ⟨hv, _⟩ | ⟨g, cap, cur, hv, hg, hh, _⟩
  · simp only [Value.slice.injEq] at hv
    rw [hv.1] at had; cases had
  · simp only [Value.slice.injEq] at hv
    rw [hv.1] at had
    cases had
    exact ⟨hg, (Array.getElem?_eq_some_iff.1 hh).1⟩
theorem own_ints {w : World} {base : Nat} {v : Value} {xs : List Int} (h : Own w base v xs) (hl : xs.length ≤ 1000) (hb : ∀ x ∈ xs, -9223372036854775808 ≤ x ∧ x ≤ 9223372036854775807) : ∃ A c, v = .slice A xs.length c ∧ Ints w A xs ∧ ∀ ad, A = some ad → base ≤ ad.block ∧ ad.block < w.heap.size := by
  obtain ⟨A, c, rfl, hi⟩ := h.ints (by omega) hb
  exact ⟨A, c, rfl, hi, own_far h⟩
theorem kclone_any (a : Option Addr) (xs : List Int) (cap : Nat) (w : World) (h : Ints w a xs) (hl : xs.length ≤ 1000) :
  Calls Try.prog 89 #[.slice a xs.length cap] w (CloneV w xs) := by
  have hbd := h.bd
  rcases h.at_ with rfl | ⟨b, off, rfl, hc⟩
  · cases a with
    | none =>
      refine (Go.Proofs.Any.slices_Clone_int_nil cloneLays 0 cap w).mono ?_
      rintro e w' ⟨rfl, rfl⟩
      exact ⟨Below.refl _ _, none, 0, rfl, ⟨by simp, .inl rfl, by simp⟩, fun ad h => by cases h⟩
    | some ad =>
      refine (Go.Proofs.Any.slices_Clone_int_zero cloneLays ad cap w).mono ?_
      rintro e w' ⟨v', rfl, ho, _, hb⟩
      have ho' : Own w' w.heap.size v' [] := ho
      obtain ⟨A, c, rfl, hi, hf⟩ := own_ints ho' (by simp) (by simp)
      exact ⟨hb, A, c, rfl, hi, hf⟩
  · refine (Go.Proofs.Any.slices_Clone_int cloneLays b off xs.length cap xs w (Nat.le_refl _) (by omega) (fun j hj => by rw [List.getD_eq_getElem?_getD]; exact hc j hj)).mono ?_
    rintro e w' ⟨v', rfl, ho, _, hb⟩
    rw [List.take_length] at ho
    have ho' : Own w' w.heap.size v' xs := ho
    obtain ⟨A, c, rfl, hi, hf⟩ := own_ints ho' hl hbd
    exact ⟨hb, A, c, rfl, hi, hf⟩
end Go.Proofs.Ytbffdpcogfmomaa
