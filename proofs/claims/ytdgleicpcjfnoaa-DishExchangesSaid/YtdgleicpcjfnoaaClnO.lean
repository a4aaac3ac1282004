/- The library's Clone at lists of int: what it answers is a slice of the call's own. -/
import Derived.Test.YtdgleicpcjfnoaaRowsI
import Derived.Shelf.Slices.Clone
import Derived.Shelf.Slices.Cells
set_option linter.unusedVariables false
namespace Go.Proofs.Ytdgleicpcjfnoaa
open Go.RowKit

def clRenO : Go.Shelf.Ren := ⟨fun | 15 => 103 | n => n, fun | 22 => 32 | n => n, fun | n => n⟩
theorem cloneLaysO : Go.Proofs.Lays2.n15 Try.prog clRenO := {
  mixed := by kernel_rfl
  f15 := Try.func103.trans (congrArg some (by kernel_rfl))
  t3 := Try.underlying3
  a3 := Try.isAgg3
  z3 := Try.sizeOf3
  v3 := Try.zeroValue3
  t4 := Try.underlying4
  a4 := Try.isAgg4
  z4 := Try.sizeOf4
  v4 := Try.zeroValue4
  t22 := Try.underlying32
  a22 := Try.isAgg32
  z22 := Try.sizeOf32
  v22 := Try.zeroValue32
  i3 := int_info }
theorem oclone_any (a : Option Addr) (xs : List Int) (cap : Nat) (w : World) (h : Ints w a xs) (hl : xs.length ≤ 1000) :
  Calls Try.prog 103 #[.slice a xs.length cap] w (fun en w' => Below w.heap.size w w' ∧ ∃ A c, en = .returned (.slice A xs.length c) ∧ Own w' w.heap.size (.slice A xs.length c) xs) := by
  have form : ∀ {w' : World} {v' : Value}, Own w' w.heap.size v' xs → ∃ A c, v' = .slice A xs.length c := by
    intro w' v' ho
    rcases ho.2 with ⟨hv, hn⟩ | ⟨g, c, cur, hv, _⟩
    · exact ⟨none, 0, by rw [hv, hn]⟩
    · exact ⟨_, c, hv⟩
  rcases h.at_ with rfl | ⟨b, off, rfl, hc⟩
  · cases a with
    | none =>
      refine (Go.Proofs.Any.slices_Clone_int_nil cloneLaysO 0 cap w).mono ?_
      rintro e w' ⟨rfl, rfl⟩
      exact ⟨Below.refl _ _, none, 0, rfl, Own.nil _ _⟩
    | some ad =>
      refine (Go.Proofs.Any.slices_Clone_int_zero cloneLaysO ad cap w).mono ?_
      rintro e w' ⟨v', rfl, ho, _, hb⟩
      have ho' : Own w' w.heap.size v' [] := ho
      obtain ⟨A, c, rfl⟩ := form ho'
      exact ⟨hb, A, c, rfl, ho'⟩
  · refine (Go.Proofs.Any.slices_Clone_int cloneLaysO b off xs.length cap xs w (Nat.le_refl _) (by omega) (fun j hj => by rw [List.getD_eq_getElem?_getD]; exact hc j hj)).mono ?_
    rintro e w' ⟨v', rfl, ho, _, hb⟩
    rw [List.take_length] at ho
    have ho' : Own w' w.heap.size v' xs := ho
    obtain ⟨A, c, rfl⟩ := form ho'
    exact ⟨hb, A, c, rfl, ho'⟩
end Go.Proofs.Ytdgleicpcjfnoaa
