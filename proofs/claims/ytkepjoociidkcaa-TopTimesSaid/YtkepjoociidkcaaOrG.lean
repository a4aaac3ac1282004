/- What is written at a minute: sort.Search at package order's own test, and written. -/
import Derived.Test.YtkepjoociidkcaaOrF
set_option linter.unusedVariables false
namespace Go.Proofs.Ytkepjoociidkcaa
open Go.RowKit

def DrawSays (w : World) (v : Bool) (en : Ending) (w' : World) : Prop := ∃ n, w' = w.drewN n ∧ en = .returned (.bool v)
def DrawNum (w : World) (v : Int) (en : Ending) (w' : World) : Prop := ∃ n, w' = w.drewN n ∧ en = .returned (.int .i64 v)
def SortedF (l : List Fct) : Prop := ∀ i j, i ≤ j → j < l.length → (fAt l i).a ≤ (fAt l j).a

set_option maxHeartbeats 1000000 in
theorem written1_any (a : Option Addr) (l : List Fct) (cap : Nat) (at_ : Int) (p q i : Nat) (w : World) (hl : FactsAt w a l)
  (hp : w.cell? ⟨p, 0, none⟩ = some (.slice a l.length cap)) (hq : w.cell? ⟨q, 0, none⟩ = some (.int .i64 at_)) (hi : i < l.length) :
  Calls Try.prog 78 #[.int .i64 i, .pointer (some ⟨p, 0, none⟩), .pointer (some ⟨q, 0, none⟩)] w (DrawSays w (decide (at_ < (fAt l i).a))) := by
  have hlen := hl.len
  rcases hl.at_ with e | ⟨b, off, rfl, hc⟩
  · rw [e] at hi; simp at hi
  obtain ⟨c0, c1, c2, c3, c4⟩ := hc i hi
  have i0 : (0 : Int) ≤ (i : Int) := by omega
  have i1 : (i : Int) < (l.length : Int) := by omega
  clear hc hl c1 c2 c3 c4
  generalize fAt l i = x at *
  go_enter Try.func78, Try.ntmps78
  go_wp2
  go_quiet (fail)
  go_wp2
  go_ret
  exact ⟨nq, rfl, rfl⟩

/-- The parts of a search: all below i are at most at, all from j on are above. -/
def SR (l : List Fct) (at_ : Int) (i j : Nat) : Prop :=
  (∀ k, k < i → (fAt l k).a ≤ at_) ∧ ∀ k, j ≤ k → k < l.length → at_ < (fAt l k).a

set_option maxRecDepth 100000 in
set_option maxHeartbeats 1000000 in
theorem search_any (a : Option Addr) (l : List Fct) (cap : Nat) (at_ : Int) (p q : Nat) (w : World) (hl : FactsAt w a l) (hs : SortedF l)
  (hp : w.cell? ⟨p, 0, none⟩ = some (.slice a l.length cap)) (hq : w.cell? ⟨q, 0, none⟩ = some (.int .i64 at_)) :
  Calls Try.prog 77 #[.int .i64 l.length, .func (.func 78) #[] #[.pointer (some ⟨p, 0, none⟩), .pointer (some ⟨q, 0, none⟩)]] w (DrawNum w (cutL at_ l)) := by
  have hlen := hl.len
  have HL := hid hl
  have HSo := hid hs
  have HP := hid hp
  have HQ := hid hq
  clear hl hs hp hq
  go_enter Try.func77, Try.ntmps77
  go_wp2
  go_loopw [5, 6] (fun x y wr => ∃ (i j : Nat), i ≤ j ∧ j ≤ l.length ∧ x = .int .i64 i ∧ y = .int .i64 j ∧ Hid (SR l at_ i j) ∧ Hid (∃ n, wr = w.drewN n)) (fun x y _ => (intOf y).toNat - (intOf x).toNat)
  case atStart => exact ⟨0, l.length, Nat.zero_le _, Nat.le_refl _, rfl, rfl, ⟨fun k hk => by omega, fun k h1 h2 => by omega⟩, ⟨0, rfl⟩⟩
  case round =>
    obtain ⟨i, j, hij, hj, rfl, rfl, HS, HW⟩ := hrel
    by_cases hlt : i < j
    · have hmid : (i + j) / 2 < l.length := by omega
      have HB := hid (below_drewN (Below.refl w.heap.size w) (Classical.choose HW.out))
      have HWe := hid (Classical.choose_spec HW.out)
      have HC := hid (show ∀ wr, wr = w.drewN (Classical.choose HW.out) → Calls Try.prog 78 #[.int .i64 (((i + j) / 2 : Nat) : Int), .pointer (some ⟨p, 0, none⟩), .pointer (some ⟨q, 0, none⟩)] wr (DrawSays wr (decide (at_ < (fAt l ((i + j) / 2)).a))) from fun wr hw => by
        subst hw
        exact written1_any a l cap at_ p q _ _ (HL.out.below HB.out) (by rw [HB.out.cell (cell_lt HP.out)]; exact HP.out) (by rw [HB.out.cell (cell_lt HQ.out)]; exact HQ.out) hmid)
      have HC2 := hid (HC.out wr HWe.out)
      clear HC HB HWe
      have HX := hid (show ∀ k, k ≤ (i + j) / 2 → (fAt l k).a ≤ (fAt l ((i + j) / 2)).a from fun k hk => HSo.out k _ hk hmid)
      have HY := hid (show ∀ k, (i + j) / 2 ≤ k → k < l.length → (fAt l ((i + j) / 2)).a ≤ (fAt l k).a from fun k hk hk2 => HSo.out _ k hk hk2)
      generalize fAt l ((i + j) / 2) = x at *
      by_cases hx : at_ < x.a
      · rw [decide_eq_true hx] at HC2
        have HXX := hid hx
        clear hx
        go_wp2_with fail
        refine HC2.out.mono ?_
        rintro e w' ⟨n, rfl, rfl⟩
        go_wp2
        go_roundw
        case rel => exact ⟨i, (i + j) / 2, by omega, by omega, rfl, by go_num, ⟨HS.out.1, fun k h1 h2 => by have := HY.out k h1 h2; have := HXX.out; omega⟩, by obtain ⟨m, e⟩ := HW.out; exact ⟨m + n, by rw [e, World.drewN_drewN]⟩⟩
        case measure => simp [intOf]; omega
      · rw [decide_eq_false hx] at HC2
        have HXX := hid (show x.a ≤ at_ by omega)
        clear hx
        go_wp2_with fail
        refine HC2.out.mono ?_
        rintro e w' ⟨n, rfl, rfl⟩
        go_wp2
        go_roundw
        case rel => exact ⟨(i + j) / 2 + 1, j, by omega, by omega, by go_num, rfl, ⟨fun k hk => by have := HX.out k (by omega); have := HXX.out; omega, HS.out.2⟩, by obtain ⟨m, e⟩ := HW.out; exact ⟨m + n, by rw [e, World.drewN_drewN]⟩⟩
        case measure => simp [intOf]; omega
    · obtain rfl : i = j := by omega
      have HE := hid (cutL_eq at_ l i hj HS.out.1 (fun h => HS.out.2 i (Nat.le_refl _) h))
      go_wp2
      go_ret
      obtain ⟨m, e⟩ := HW.out
      exact ⟨m, e, ret_int (by rw [← HE.out])⟩

set_option maxRecDepth 100000 in
set_option maxHeartbeats 1000000 in
theorem written_any (a : Option Addr) (l : List Fct) (cap : Nat) (at_ : Int) (w : World) (hl : FactsAt w a l) (hs : SortedF l) (hcap : l.length ≤ cap) :
  Calls Try.prog 55 #[.slice a l.length cap, .int .i64 at_] w fun en w' => Below w.heap.size w w' ∧ en = .returned (.slice a (cutL at_ l) (cutL at_ l)) := by
  have hcl := cutL_le at_ l
  have hlen := hl.len
  have hB : Below w.heap.size w ((w.alloc (.cells #[.slice a l.length cap] 22)).alloc (.cells #[.int .i64 at_] 3)) := ((Below.refl w.heap.size w).alloc (Nat.le_refl _) _).alloc (by simp) _
  have y0 : ((w.alloc (.cells #[.slice a l.length cap] 22)).alloc (.cells #[.int .i64 at_] 3)).cell? ⟨w.heap.size, 0, none⟩ = some (.slice a l.length cap) := by go_simp
  have y1 : ((w.alloc (.cells #[.slice a l.length cap] 22)).alloc (.cells #[.int .i64 at_] 3)).cell? ⟨w.heap.size + 1, 0, none⟩ = some (.int .i64 at_) := by go_simp
  have HC := hid (search_any a l cap at_ _ _ _ (hl.below hB) hs y0 y1)
  have HB := hid hB
  clear hB hl hs y1
  go_enter Try.func55, Try.ntmps55
  go_wp2_with fail
  refine HC.out.mono ?_
  rintro e w' ⟨n, rfl, rfl⟩
  generalize hn : cutL at_ l = c at *
  have n0 : (0 : Int) ≤ (c : Int) := by omega
  have n1 : (c : Int) ≤ (cap : Int) := by omega
  have HN := hid hn
  clear hn
  go_wp2
  go_ret
  exact ⟨below_drewN HB.out _, by rw [HN.out]; rfl⟩
end Go.Proofs.Ytkepjoociidkcaa
