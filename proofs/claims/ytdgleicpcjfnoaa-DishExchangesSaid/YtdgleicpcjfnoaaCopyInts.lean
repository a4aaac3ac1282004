/- The document's own copy of a list of int. -/
import Derived.Test.YtdgleicpcjfnoaaBase
import Derived.Test.YtdgleicpcjfnoaaRowsI
set_option linter.unusedVariables false
namespace Go.Proofs.Ytdgleicpcjfnoaa
open Go.RowKit

set_option maxRecDepth 100000 in
set_option maxHeartbeats 2000000 in
theorem copyInts_any (a : Option Addr) (xs : List Int) (cap : Nat) (w : World) (h : Ints w a xs) (hlen : xs.length ≤ 1000000) :
  Calls Try.prog 46 #[.slice a xs.length cap] w fun en w' => Below w.heap.size w w' ∧ ∃ v, en = .returned v ∧ Own w' w.heap.size v xs := by
  obtain ⟨i0, hi, hz0, hz1, hz2⟩ := info_parts int_info
  have HH := hid h
  clear h
  go_enter Try.func46, Try.ntmps46
  go_wp2
  go_loopw [3, 4] (fun o i wr => ∃ j : Nat, j ≤ xs.length ∧ i = .int .i64 j ∧ wr.ownsRow w.heap.size 3 1 o j ((xs.take j).map (Value.int .i64)) ∧ Below w.heap.size w wr) (fun _ i _ => xs.length - (intOf i).toNat)
  case atStart => exact ⟨0, Nat.zero_le _, rfl, ⟨rfl, .inl ⟨rfl, rfl⟩⟩, Below.refl _ _⟩
  case round =>
    obtain ⟨j, hj, rfl, hown, hB⟩ := hrel
    by_cases hlt : j < xs.length
    · rcases (HH.out.below hB).at_ with e | ⟨bb, off, rfl, hcell⟩
      · rw [e] at hlt; simp at hlt
      have c0 := hcell j hlt
      have HT := hid (show xs.take (j + 1) = xs.take j ++ [xs[j]?.getD 0] by rw [List.take_succ_eq_append_getElem hlt, List.getElem?_eq_getElem hlt]; rfl)
      clear hcell HH
      generalize xs[j]?.getD 0 = y at *
      go_wp2_with (at_builtin; refine wpList_append_own _ rfl _ _ 32 rfl w.heap.size 3 i0 (.int .i64 0) 1 8 Try.underlying32 hi hz0 hz1 hz2 rfl (by decide) _ _ _ rfl (hown.alloc _) ⟨wr.heap.size, 0, none⟩ 1 1 [.int .i64 y] rfl rfl ?c1 ?c2 ?c3 ?c4 ?c5 ?_)
      case c1 => exact cell_one_new _ _ _
      case c2 => simp [Value.oneCell']
      case c3 => unfold maxLen; omega
      case c4 => omega
      case c5 => have := hB.size; simp; omega
      intro v' w4 hown2 hgrow _
      have p4 := (hB.alloc hB.size _).grown hgrow (by have := hB.size; simp; omega) (fun q hq => by have := (hown.lt q hq).1; omega)
      clear hgrow hown
      go_wp2
      go_roundw
      case rel => exact ⟨j + 1, by omega, by go_num, by rw [HT.out]; simpa using hown2, p4⟩
      case measure => simp [intOf]; omega
    · obtain rfl : j = xs.length := by omega
      rw [List.take_length] at hown
      go_wp2
      go_ret
      exact ⟨hB, _, rfl, hown⟩

theorem Own.form {w : World} {base : Nat} {v : Value} {xs : List Int} (h : Own w base v xs) : ∃ A c, v = .slice A xs.length c := by
  rcases h.2 with ⟨hv, hn⟩ | ⟨g, c, cur, hv, _⟩
  · exact ⟨none, 0, by rw [hv, hn]⟩
  · exact ⟨_, _, hv⟩
theorem copyInts_sl (a : Option Addr) (xs : List Int) (cap : Nat) (w : World) (h : Ints w a xs) (hlen : xs.length ≤ 1000000) :
  Calls Try.prog 46 #[.slice a xs.length cap] w fun en w' => Below w.heap.size w w' ∧ ∃ A c, en = .returned (.slice A xs.length c) ∧ Own w' w.heap.size (.slice A xs.length c) xs := by
  refine (copyInts_any a xs cap w h hlen).mono ?_
  rintro e w' ⟨hb, v, he, ho⟩
  obtain ⟨A, c, rfl⟩ := ho.form
  exact ⟨hb, A, c, he, ho⟩

end Go.Proofs.Ytdgleicpcjfnoaa
