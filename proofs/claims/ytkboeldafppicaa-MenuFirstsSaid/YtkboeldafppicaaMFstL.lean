/- The document's order of words: chapter 3. -/
import Derived.Test.YtkboeldafppicaaMFstM
import Derived.Test.YtkboeldafppicaaMRef
import Derived.BigQuiet
set_option linter.unusedVariables false
set_option linter.unusedSimpArgs false
namespace Go.Proofs.Ytkboeldafppicaa
open Go.RowKit

theorem lessL_step (l m : List Int) (k : Nat) (hk : k < l.length) (hm : m.length = l.length) : lessL (l.drop k) (m.drop k) = if l[k]?.getD 0 = m[k]?.getD 0 then lessL (l.drop (k + 1)) (m.drop (k + 1)) else decide (l[k]?.getD 0 < m[k]?.getD 0) := by
  rw [List.drop_eq_getElem_cons hk, List.drop_eq_getElem_cons (show k < m.length by omega), lessL, List.getElem?_eq_getElem hk, List.getElem?_eq_getElem (show k < m.length by omega)]
  rfl
set_option maxRecDepth 100000 in
set_option maxHeartbeats 1000000 in
theorem rLess_any (A B : Option Addr) (l m : List Int) (c d : Nat) (w : World) (h : Ints w A l) (h' : Ints w B m) (hlm : m.length = l.length) :
    Calls Try.prog 120 #[.slice A l.length c, .slice B m.length d] w fun e w' => Below w.heap.size w w' ∧ e = .returned (.bool (lessL l m)) := by
  have hl := h.len
  have HC : Hid (∀ k, k < l.length → ∃ b o b' o', A = some ⟨b, o, none⟩ ∧ B = some ⟨b', o', none⟩ ∧ w.cell? ⟨b, o + k, none⟩ = some (.int .i64 (l[k]?.getD 0)) ∧ w.cell? ⟨b', o' + k, none⟩ = some (.int .i64 (m[k]?.getD 0))) := hid (fun k hk => by
    rcases h.at_ with e | ⟨b, o, hA, hc⟩
    · rw [e] at hk; simp at hk
    · rcases h'.at_ with e | ⟨b', o', hB, hc'⟩
      · rw [e] at hlm; simp at hlm; omega
      · exact ⟨b, o, b', o', hA, hB, hc k hk, hc' k (by omega)⟩)
  have HS := hid (fun k hk => lessL_step l m k hk hlm)
  have HZ := hid (show lessL (l.drop l.length) (m.drop l.length) = false by rw [List.drop_length]; rfl)
  have hlm1 : m.length ≤ l.length := by omega
  have hlm2 : l.length ≤ m.length := by omega
  clear h h' hlm
  go_enter Try.func120, Try.ntmps120
  go_wp2
  go_loopw [5] (fun i wr => ∃ (k : Nat), k ≤ l.length ∧ i = .int .i64 k ∧ Hid (lessL l m = lessL (l.drop k) (m.drop k)) ∧ Hid (Below w.heap.size w wr)) (fun i _ => l.length - (intOf i).toNat)
  case atStart => exact ⟨0, Nat.zero_le _, rfl, rfl, Below.refl _ _⟩
  case round =>
    obtain ⟨k, hk, rfl, HT, HW⟩ := hrel
    by_cases hlt : k < l.length
    · obtain ⟨b, o, b', o', hA, hB, c0, c1⟩ := HC.out k hlt
      have hs := HS.out k hlt
      rw [← HT.out] at hs
      have hk0 : (0 : Int) ≤ (k : Int) := by omega
      have hk1 : (k : Int) < (l.length : Int) := by omega
      have hk2 : (k : Int) < (m.length : Int) := by omega
      have d0 := (HW.out.cell (cell_lt c0)).trans c0
      have d1 := (HW.out.cell (cell_lt c1)).trans c1
      clear c0 c1
      subst hA
      subst hB
      generalize l[k]?.getD 0 = x at *
      generalize m[k]?.getD 0 = y at *
      by_cases hxy : x = y
      · have HX := hid (hs.trans (if_pos hxy))
        have hxy' : (x != y) = false := by simpa using hxy
        clear hxy hs
        go_wp2_with fail
        go_quiet (fail)
        have HW2 := hid (below_drewN HW.out nq)
        generalize wr.drewN nq = wd at *
        go_wp2
        go_roundw
        case rel => exact ⟨k + 1, by omega, by go_num, HX.out, HW2.out⟩
        case measure => simp [intOf]; omega
      · have HX := hid (hs.trans (if_neg hxy))
        have hxy' : (x != y) = true := by simpa using hxy
        clear hs hxy
        go_wp2_with fail
        go_quiet (fail)
        have HW2 := hid (below_drewN HW.out nq)
        have d0 : (wr.drewN nq).cell? ⟨b, o + k, none⟩ = _ := d0
        have d1 : (wr.drewN nq).cell? ⟨b', o' + k, none⟩ = _ := d1
        generalize wr.drewN nq = wd at *
        go_wp2_with fail
        go_quiet (fail)
        go_wp2
        go_ret
        exact ⟨below_drewN HW2.out _, by rw [HX.out]; rfl⟩
    · obtain rfl : k = l.length := by omega
      have HX := hid (HT.out.trans HZ.out)
      go_wp2
      go_ret
      exact ⟨HW.out, by rw [HX.out]; rfl⟩
end Go.Proofs.Ytkboeldafppicaa
