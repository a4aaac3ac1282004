/- The law TopDays: what it holds on to, and the answers that it meets. -/
import Derived.Test.YtilolaednbcaoaaBoxes
import Derived.Test.YtilolaednbcaoaaTopDaysM
import Derived.Test.YtilolaednbcaoaaDaysLaw
import Derived.Test.YtilolaednbcaoaaCounts
import Derived.Test.YtilolaednbcaoaaMenu
import Derived.Test.YtilolaednbcaoaaLong
set_option linter.unusedVariables false
namespace Go.Proofs.Ytilolaednbcaoaa
open Go.RowKit

def TDs (w : World) (L : Int) (r c : Value) (m f k : Int) (w' : World) : Prop := BoxT w' w.heap.size L r c ∧ BoxT w' (w.heap.size + 1) m (.int .i64 f) (.int .i64 k) ∧ Below w.heap.size w w'
section
variable {w : World} {L : Int} {r c : Value} {m f k : Int} {w' : World}
theorem TDs.keep {w2 : World} (h : TDs w L r c m f k w') (hb : Below w'.heap.size w' w2) : TDs w L r c m f k w2 := ⟨h.1.keep hb, h.2.1.keep hb, h.2.2.trans (hb.mono h.2.2.size)⟩
theorem TDs.lt (h : TDs w L r c m f k w') : w.heap.size + 1 < w'.heap.size := h.2.1.lt
theorem TDs.set (h : TDs w L r c m f k w') {g i : Nat} (hg : w.heap.size + 1 < g) (v : Value) : TDs w L r c m f k (w'.setCell ⟨g, i, none⟩ v) := by
  have hb : Below g w' (w'.setCell ⟨g, i, none⟩ v) := (Below.refl g _).setCell (p := ⟨g, i, none⟩) (Nat.le_refl _) _
  exact ⟨h.1.keepN hb (by omega), h.2.1.keepN hb hg, h.2.2.trans (hb.mono (by omega))⟩
theorem TDs.made (w : World) (L : Int) (r c : Value) (m f k : Int) : TDs w L r c m f k ((w.alloc (.cells #[.int .i64 L, r, c] 24)).alloc (.cells #[.int .i64 m, .int .i64 f, .int .i64 k] 38)) :=
  ⟨⟨by go_simp, by go_simp, by go_simp⟩, ⟨by go_simp, by go_simp, by go_simp⟩, ((Below.refl _ _).alloc (Nat.le_refl _) _).alloc (by simp) _⟩
end
/-- A list of numbers that may be written. -/
def MenuS (w : World) (g N : Nat) (M : List Int) : Prop := M.length = N ∧ g < w.heap.size ∧ ∀ i, i < N → w.cell? ⟨g, i, none⟩ = some (.int .i64 (M[i]?.getD 0)) ∧ w.frozen? ⟨g, i, none⟩ = false
theorem MenuS.keep {w w' : World} {g N : Nat} {M : List Int} (h : MenuS w g N M) (hb : Below w.heap.size w w') : MenuS w' g N M :=
  ⟨h.1, Nat.lt_of_lt_of_le h.2.1 hb.size, fun i hi => ⟨by rw [hb.cell h.2.1]; exact (h.2.2 i hi).1, by rw [hb.frozen h.2.1]; exact (h.2.2 i hi).2⟩⟩
theorem MenuS.set {w : World} {g N : Nat} {M : List Int} (h : MenuS w g N M) {x : Nat} (hx : x < N) (v : Int) : MenuS (w.setCell ⟨g, x, none⟩ (.int .i64 v)) g N (M.set x v) := by
  have hl := h.1
  refine ⟨by simp [h.1], by simpa [World.setCell] using h.2.1, fun i hi => ⟨?_, by rw [World.frozen?_setCell]; exact (h.2.2 i hi).2⟩⟩
  by_cases hxi : x = i
  · subst hxi
    rw [World.cell?_setCell_same _ _ _ (h.2.2 x hi).1, List.getElem?_set_self (by omega)]
    rfl
  · rw [World.cell?_setCell_other _ _ _ _ (by simp), List.getElem?_set_ne hxi]
    exact (h.2.2 i hi).1
theorem MenuS.made (w : World) (N : Nat) : MenuS (w.alloc (.cells (Array.replicate N (Value.int .i64 0)) 3)) w.heap.size N (List.replicate N 0) := by
  refine ⟨by simp, by simp, fun i hi => ⟨?_, by simp⟩⟩
  rw [World.cell?_alloc_new]
  simp [hi]
theorem Own.cells {w : World} {m c : Nat} {A : Option Addr} {xs : List Int} (h : Own w m (.slice A xs.length c) xs) (i : Nat) (hi : i < xs.length) : ∃ b, A = some ⟨b, 0, none⟩ ∧ m ≤ b ∧ w.cell? ⟨b, i, none⟩ = some (.int .i64 (xs[i]?.getD 0)) := by
  rcases h.2 with ⟨_, hn⟩ | ⟨g, cap, cur, hv, hg, hh, hc, hm, hs, ht⟩
  · omega
  · simp only [Value.slice.injEq] at hv
    obtain ⟨rfl, _, rfl⟩ := hv
    obtain ⟨cur, hg, hh, _, _, _, hx⟩ := own_open h
    exact ⟨g, rfl, hg, by rw [cell_block hh]; exact hx i hi⟩
theorem make_n (n : Nat) (hn : n ≤ 1000000) : ∀ w : World, (Instr.makeSlice 22 (.int .i64 (n : Int)) (.int .i64 (n : Int))).run Try.prog w = .ok (.slice (some ⟨w.heap.size, 0, none⟩) n n) (w.alloc (.cells (List.replicate n (Value.int .i64 0)).toArray 3)) := by
  obtain ⟨i0, hi, hz0, hz1, hz2⟩ := info_parts int_info
  intro w
  have hr := run_make (P := Try.prog) w 22 3 i0 (.int .i64 0) Try.underlying22 hi hz0 .i64 .i64 n n (by omega) (by omega) (by rw [hz2]; omega) (by omega)
  simp only [Int.toNat_natCast, hz1, Nat.mul_one] at hr
  have e : madeCells (Value.int .i64 0).cells n = (List.replicate n (Value.int .i64 0)).toArray := Array.ext' (toList_madeCells_one _ _)
  rw [e] at hr
  exact hr
theorem checkC_ok {L : Int} {rs cs : List Int} {m f k : Int} (hv : validT L rs cs = 0) (hb : badC m f k = false) : checkC L rs cs [(m, f, k)] = 0 := by simp [checkC, hv, anyBadC, hb]
theorem checkD_in {L : Int} {rs cs : List Int} {d : Int} (hv : validT L rs cs = 0) (h0 : 0 ≤ d) (h1 : d < L) : checkD L rs cs d = 0 := by
  rw [checkD, if_neg (by simp [hv]), if_neg (by omega)]
theorem td_days {L : Int} {rs cs : List Int} {m f k x : Int} (hv : validT L rs cs = 0) (hb : badC m f k = false) (h0 : 0 ≤ x) (h1 : x < m) : daysL L rs cs m f k x = (rdw x (allM L rs cs m f k) (allM L rs cs m f k).length, 0) := by
  rw [daysL, if_neg (by simp [checkC_ok hv hb]), if_neg (by simp [isMenuB]; omega), mdays, dw_rdw _ _ _ _ _ _ (validC_ok hb).2.2.2.2 h0, allM_len]
  rfl
theorem td_open {L : Int} {rs cs : List Int} {d : Int} (hv : validT L rs cs = 0) (h0 : 0 ≤ d) (h1 : d < L) : openL L rs cs d = (openB rs cs d, 0) := by
  rw [openL_eq, ropenL, if_neg (by simp [checkD_in hv h0 h1])]
theorem td_menu {L : Int} {rs cs : List Int} {m f k d : Int} (hv : validT L rs cs = 0) (hb : badC m f k = false) (h0 : 0 ≤ d) (h1 : d < L) : menuL L rs cs m f k d = if openB rs cs d then ((allM L rs cs m f k)[d.toNat]?.getD 0, 0) else (0, 13) := by
  rw [menuL_eq, rmenuL, if_neg (by simp [checkC_ok hv hb]), if_neg (by omega)]
  cases openB rs cs d <;> simp [allM]
set_option maxRecDepth 100000 in
set_option maxHeartbeats 1000000 in
theorem weekly_any (w : World) : Calls Try.prog 33 #[] w (fun e w' => Below w.heap.size w w' ∧ ∃ a c, e = .returned (.agg #[.int .i64 7, .slice a 2 c, .slice none 0 0]) ∧ TermAt w' 7 a [5, 6] none []) := by
  have HB := hid (((Below.refl w.heap.size w).alloc (Nat.le_refl _) (.cells #[.int .i64 7, .slice (some ⟨w.heap.size + 1, 0, none⟩) 2 2, .slice none 0 0] 24)).alloc (by simp) (.cells #[.int .i64 5, .int .i64 6] 3))
  go_enter Try.func33, Try.ntmps33
  go_wp2
  refine bodyPost_ret (v := .agg #[.int .i64 7, .slice (some ⟨w.heap.size + 1, 0, none⟩) 2 2, .slice none 0 0]) (by simp [results, Try.results33, go_sem]) rfl ⟨HB.out, some ⟨w.heap.size + 1, 0, none⟩, 2, rfl, ⟨⟨by simp, .inr ⟨_, _, rfl, fun i hi => ?_⟩, by simp⟩, ⟨by simp, .inl rfl, by simp⟩, by omega, by omega⟩⟩
  have : i = 0 ∨ i = 1 := by simp at hi; omega
  rcases this with rfl | rfl <;> go_simp
end Go.Proofs.Ytilolaednbcaoaa
