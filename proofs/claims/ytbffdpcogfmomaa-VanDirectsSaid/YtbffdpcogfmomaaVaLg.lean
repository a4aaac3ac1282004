/- Tables that came in; which are large: the laws of chapter 8. -/
import Derived.Test.YtbffdpcogfmomaaVaKn
import Derived.Test.YtbffdpcogfmomaaOpenI
import Derived.Deep.SlicePairs
set_option linter.unusedVariables false
namespace Go.Proofs.Ytbffdpcogfmomaa
open Go.ChangeShapes Go.WideShapes Go.ChangeAt Go.RowKit Go.Joins Go.Deep

def SetRaw (w : World) (A : Option Addr) (xs : List Int) : Prop := xs.length ≤ 9223372036854775807 ∧ (xs.length ≤ 140737488355328 → Ints w A xs)
/-- A table that may be too long to be read. -/
def TabRaw (w : World) (a : Option Addr) (t : Tbl) : Prop := t.length ≤ 140737488355328 → t = [] ∨ ∃ b off, a = some ⟨b, off, none⟩ ∧ ∀ i, i < t.length → ∃ A c, w.cell? ⟨b, off + i, none⟩ = some (.slice A (tR t i).length c) ∧ SetRaw w A (tR t i)
theorem list_of {α : Type} (d : α) (n : Nat) (Pr : Nat → α → Prop) (h : ∀ i, i < n → ∃ x, Pr i x) : ∃ l : List α, l.length = n ∧ ∀ i, i < n → Pr i (l[i]?.getD d) := by
  induction n with
  | zero => exact ⟨[], rfl, fun i hi => by omega⟩
  | succ n ih =>
    obtain ⟨l, h1, h2⟩ := ih (fun i hi => h i (by omega))
    obtain ⟨x, hx⟩ := h n (by omega)
    refine ⟨l ++ [x], by simp [h1], fun i hi => ?_⟩
    rcases Nat.lt_or_ge i n with hh | hh
    · rw [List.getElem?_append_left (by omega)]; exact h2 i hh
    · obtain rfl : i = n := by omega
      rw [List.getElem?_append_right (by omega), h1]
      simpa using hx
theorem addB_none (b off i : Nat) : (⟨b, off, none⟩ : Addr).add i = ⟨b, off + i, none⟩ := by
  unfold Addr.add; split
  · simp_all
  · rfl
theorem cells_ints : Try.prog.cellsOf 23 = 1 := by kernel_rfl
set_option maxRecDepth 100000 in
theorem open_table {H : Type} {enc : TypeId × Value → H} {W : World} {r : Go.Reach} {b0 : Nat} {v : Value} {d : DataW H} {p : List MemPlace} (hv : Value.okWide Try.prog W r b0 22 v)
    (h : DataW.Trod enc Try.prog W 0 (fun _ => true) true 22 v d p) :
    ∃ (a : Option Addr) (t : Tbl) (cap : Nat), v = .slice a t.length cap ∧ t.length ≤ 9223372036854775807 ∧ TabRaw W a t := by
  obtain ⟨a0, len0, cap0, rfl⟩ := okWide_slice Try.underlying22 hv
  obtain ⟨fuel, hf⟩ := h
  simp only [Value.cells] at hf
  rcases open_slice1 Try.underlying22 cells_ints hf with ⟨hc, _⟩ | ⟨a, len, cap, m, n, V, D, Pl, hc, _, hl, hm, hmm, _, hall⟩
  · simp at hc
    obtain ⟨rfl, rfl, rfl⟩ := hc
    exact ⟨none, [], 0, rfl, by simp, fun _ => .inl rfl⟩
  · simp at hc hmm
    unfold maxLen at hm
    obtain ⟨t, h1, h2⟩ := list_of ([] : List Int) len (fun i x => ∃ A c, W.cell? (a.add i) = some (.slice A x.length c) ∧ SetRaw W A x) (by
      intro i hi
      obtain ⟨c0, t0⟩ := hall i (by omega)
      obtain ⟨A, xs, c, e0, l0, g0⟩ := open_ints_at t0
      exact ⟨xs, A, c, by rw [c0, e0], ⟨l0, g0⟩⟩)
    obtain ⟨rfl, rfl, rfl⟩ := hc
    refine ⟨some a, t, cap0, by rw [h1], by omega, fun hb => ?_⟩
    by_cases h0 : len0 = 0
    · left; exact List.eq_nil_of_length_eq_zero (by omega)
    · right
      obtain ⟨b, off, spot⟩ := a
      obtain ⟨_, _, hc0, _⟩ := h2 0 (by omega)
      have hspot : spot = none := by simpa [Addr.add] using World.cell?_spot hc0
      subst hspot
      refine ⟨b, off, rfl, fun i hi => ?_⟩
      have := h2 i (by omega)
      simp only [addB_none] at this
      exact this
def largeB (t : Tbl) : Bool := decide (30 < t.length) || (List.range t.length).any fun i => decide (30 < (tR t i).length)
theorem largeB_no {t : Tbl} (h : largeB t = false) : t.length ≤ 30 ∧ ∀ i, i < t.length → (tR t i).length ≤ 30 := by
  simp [largeB] at h
  exact h
theorem largeB_row {t : Tbl} {i : Nat} (hi : i < t.length) (h : 30 < (tR t i).length) : largeB t = true := by
  simp only [largeB, Bool.or_eq_true, List.any_eq_true, List.mem_range, decide_eq_true_eq]
  exact .inr ⟨i, hi, h⟩
theorem largeB_all {t : Tbl} (h0 : ¬ 30 < t.length) (h : ∀ i, i < t.length → ¬ 30 < (tR t i).length) : largeB t = false := by
  rw [Bool.eq_false_iff]
  simp only [largeB, ne_eq, Bool.or_eq_true, List.any_eq_true, List.mem_range, decide_eq_true_eq]
  rintro (h1 | ⟨i, hi, h1⟩)
  · exact h0 h1
  · exact h i hi h1
theorem TabRaw.tab {w : World} {a : Option Addr} {t : Tbl} (h : TabRaw w a t) (hl : largeB t = false) : TabAt w a t := by
  obtain ⟨h1, h2⟩ := largeB_no hl
  refine ⟨by omega, ?_⟩
  rcases h (by omega) with e | ⟨b, off, rfl, hc⟩
  · exact .inl e
  · refine .inr ⟨b, off, rfl, fun i hi => ?_⟩
    obtain ⟨A, c, g1, g2⟩ := hc i hi
    exact ⟨A, c, g1, g2.2 (by have := h2 i hi; omega)⟩
set_option maxRecDepth 100000 in
set_option maxHeartbeats 2000000 in
theorem large_any (a : Option Addr) (t : Tbl) (cap : Nat) (w : World) (hl : t.length ≤ 9223372036854775807) (h : TabRaw w a t) : Calls Try.prog 17 #[.slice a t.length cap] w (SaysK w (largeB t)) := by
  by_cases h0 : 30 < t.length
  · have HR := hid (show largeB t = true by simp [largeB, h0])
    have h0' : (30 : Int) < (t.length : Int) := by omega
    clear h0 h
    go_enter Try.func17, Try.ntmps17
    go_wp2
    go_ret
    exact ⟨rfl, by rw [HR.out]; first | rfl | (apply ret_bool; simp; omega)⟩
  · have HN := hid (fun h2 => largeB_all h0 h2)
    have HRw := hid (fun (i : Nat) hi (h2 : 30 < (tR t i).length) => largeB_row hi h2)
    have HH := hid (h (by omega))
    have h0' : (t.length : Int) ≤ 30 := by omega
    have h30 : t.length ≤ 30 := by omega
    clear h0 h
    go_enter Try.func17, Try.ntmps17
    go_wp2
    go_loop [3] (fun i => ∃ (k : Nat), k ≤ t.length ∧ i = .int .i64 k ∧ Hid (∀ i, i < k → ¬ 30 < (tR t i).length)) (fun i => t.length - (intOf i).toNat)
    case atStart => exact ⟨0, Nat.zero_le _, rfl, fun i hi => by omega⟩
    case round =>
      obtain ⟨k, hk, rfl, HG⟩ := hrel
      by_cases hlt : k < t.length
      · rcases HH.out with e | ⟨b, off, rfl, hc⟩
        · rw [e] at hlt; simp at hlt
        obtain ⟨A, c, g, hs⟩ := hc k hlt
        have hrl := hs.1
        have HX := hid (fun e => HRw.out k hlt e)
        have HY := hid (fun (e : ¬ 30 < (tR t k).length) => show ∀ i, i < k + 1 → ¬ 30 < (tR t i).length from fun i hi => by
          rcases Nat.lt_or_ge i k with h | h
          · exact HG.out i h
          · rw [show i = k by omega]; exact e)
        clear hc hs
        by_cases hr : 30 < (tR t k).length
        · have HZ := hid (HX.out hr)
          have hr' : (30 : Int) < ((tR t k).length : Int) := by omega
          clear HX HY hr
          generalize (tR t k).length = m at *
          go_wp2
          go_ret
          exact ⟨rfl, by rw [HZ.out]; first | rfl | (apply ret_bool; simp; omega)⟩
        · have HZ := hid (HY.out hr)
          have hr' : ((tR t k).length : Int) ≤ 30 := by omega
          clear HX HY hr
          generalize (tR t k).length = m at *
          go_wp2
          go_round
          case rel => exact ⟨k + 1, by omega, by go_num, HZ⟩
          case measure => simp [intOf]; omega
      · have HZ := hid (HN.out (fun i hi => HG.out i (by omega)))
        go_wp2
        go_ret
        exact ⟨rfl, by rw [HZ.out]; first | rfl | (apply ret_bool; simp; omega)⟩
theorem long8_any (A : Option Addr) (n c : Nat) (w : World) (hn : n ≤ 9223372036854775807) : Calls Try.prog 18 #[.slice A n c] w (SaysK w (decide (60 < n))) := by
  by_cases h1 : 60 < n
  · have h1' : (60 : Int) < (n : Int) := by omega
    rw [decide_eq_true h1]
    clear h1
    go_enter Try.func18, Try.ntmps18
    go_wp2
    go_ret
    exact ⟨rfl, by first | rfl | (apply ret_bool; simp; omega)⟩
  · have h1' : (n : Int) ≤ 60 := by omega
    rw [decide_eq_false h1]
    clear h1
    go_enter Try.func18, Try.ntmps18
    go_wp2
    go_ret
    exact ⟨rfl, by first | rfl | (apply ret_bool; simp; omega)⟩
end Go.Proofs.Ytbffdpcogfmomaa
