/- Apart of package menu. -/
import Derived.Test.YtkboeldafppicaaPlainR
set_option linter.unusedVariables false
set_option linter.unusedSimpArgs false
namespace Go.Proofs.Ytkboeldafppicaa
open Go.RowKit Go.Maps

/-- What Apart's rule remembers behind a letter. -/
def apN (d : Int) (s : Rec) (c : Nat) : Rec := if s.2.2 = true ∨ (2 ≤ d ∧ (c : Int) = s.1) ∨ (3 ≤ d ∧ (c : Int) = s.2.1) then (0, 0, true) else ((c : Int), s.1, false)
def apK (s : Rec) : Bool := !s.2.2
def ApP (L : Nat) (s : Rec) : Prop := -1 ≤ s.1 ∧ s.1 < L ∧ -1 ≤ s.2.1 ∧ s.2.1 < L
theorem apP_next (L : Nat) (hL : 1 ≤ L) (d : Int) (s : Rec) (c : Nat) (h : ApP L s) (hc : c < L) : ApP L (apN d s c) := by
  obtain ⟨h1, h2, h3, h4⟩ := h
  unfold apN ApP
  split
  · simp; omega
  · simp; omega
theorem apP_bound (L : Nat) (hL : L ≤ 6) (l : List Rec) (hn : l.Nodup) (h : ∀ s ∈ l, ApP L s) : l.length ≤ 98 := by
  refine coded_bound (fun s : Rec => ((s.1 + 1) * 14 + (s.2.1 + 1) * 2 + (if s.2.2 then 1 else 0)).toNat) 98 l hn (fun s hs => ?_) (fun s hs t ht e => ?_)
  · obtain ⟨h1, h2, h3, h4⟩ := h s hs
    split <;> omega
  · obtain ⟨h1, h2, h3, h4⟩ := h s hs
    obtain ⟨g1, g2, g3, g4⟩ := h t ht
    obtain ⟨a, b, c⟩ := s
    obtain ⟨a', b', c'⟩ := t
    dsimp only at *
    have : a = a' ∧ b = b' ∧ c = c' := by
      cases c <;> cases c' <;> simp at e ⊢ <;> omega
    obtain ⟨rfl, rfl, rfl⟩ := this
    rfl
set_option maxRecDepth 100000 in
set_option maxHeartbeats 1000000 in
theorem apKeep_any (s : Rec) (w : World) : Calls Try.prog 93 #[VR s] w fun e w' => Below w.heap.size w w' ∧ e = .returned (.bool (apK s)) := by
  obtain ⟨a, b, l⟩ := s
  have hA : Below w.heap.size w (w.alloc (.cells #[.int .i64 a, .int .i64 b, .bool l] 103)) := (Below.refl _ _).alloc (Nat.le_refl _) _
  unfold VR
  go_enter Try.func93, Try.ntmps93
  go_wp2
  go_ret
  exact ⟨hA, rfl⟩
set_option maxRecDepth 100000 in
set_option maxHeartbeats 4000000 in
theorem apNext_any (s : Rec) (c p : Nat) (d : Int) (w : World) (h : w.cell? ⟨p, 0, none⟩ = some (.int .i64 d)) : Calls Try.prog 92 #[VR s, .int .i64 c, .pointer (some ⟨p, 0, none⟩)] w fun e w' => Below w.heap.size w w' ∧ e = .returned (VR (apN d s c)) := by
  have hp := cell_lt h
  obtain ⟨a, b, l⟩ := s
  have Bad := hid (fun (hh : l = true ∨ (2 ≤ d ∧ (c : Int) = a) ∨ (3 ≤ d ∧ (c : Int) = b)) => show apN d (a, b, l) c = (0, 0, true) from if_pos hh)
  have Good := hid (fun (hh : ¬ (l = true ∨ (2 ≤ d ∧ (c : Int) = a) ∨ (3 ≤ d ∧ (c : Int) = b))) => show apN d (a, b, l) c = ((c : Int), a, false) from if_neg hh)
  have HA := hid (fun o => ((Below.refl w.heap.size w).alloc (Nat.le_refl _) (.cells #[.int .i64 a, .int .i64 b, .bool l] 103)).alloc (by simp) o)
  unfold VR
  cases l with
  | true =>
    have E := hid (Bad.out (.inl rfl))
    clear Bad Good
    go_enter Try.func92, Try.ntmps92
    go_wp2
    refine bodyPost_ret (v := VR (0, 0, true)) (by simp [VR, results, Try.results92, go_sem]) rfl ⟨HA.out _, by rw [E.out]; rfl⟩
  | false =>
    by_cases h2 : (2 ≤ d ∧ (c : Int) = a)
    · have E := hid (Bad.out (.inr (.inl h2)))
      obtain ⟨h2, e1⟩ := h2
      have e1' : ((c : Int) == a) = true := by simp [e1]
      clear Bad Good e1
      go_enter Try.func92, Try.ntmps92
      go_wp2
      refine bodyPost_ret (v := VR (0, 0, true)) (by simp [VR, results, Try.results92, go_sem]) rfl ⟨HA.out _, by rw [E.out]; rfl⟩
    · by_cases h3 : (3 ≤ d ∧ (c : Int) = b)
      · have E := hid (Bad.out (.inr (.inr h3)))
        obtain ⟨h3, e2⟩ := h3
        have h2' : 2 ≤ d := by omega
        have e1' : ((c : Int) == a) = false := by simp; intro e; exact h2 ⟨h2', e⟩
        have e2' : ((c : Int) == b) = true := by simp [e2]
        clear Bad Good e2 h2
        go_enter Try.func92, Try.ntmps92
        go_wp2
        refine bodyPost_ret (v := VR (0, 0, true)) (by simp [VR, results, Try.results92, go_sem]) rfl ⟨HA.out _, by rw [E.out]; rfl⟩
      · have E := hid (Good.out (by rintro (h | h | h); cases h; exact h2 h; exact h3 h))
        clear Bad Good
        by_cases g2 : 2 ≤ d
        · have e1' : ((c : Int) == a) = false := by simp; intro e; exact h2 ⟨g2, e⟩
          by_cases g3 : 3 ≤ d
          · have e2' : ((c : Int) == b) = false := by simp; intro e; exact h3 ⟨g3, e⟩
            clear h2 h3
            go_enter Try.func92, Try.ntmps92
            go_wp2
            refine bodyPost_ret (v := VR ((c : Int), a, false)) (by simp [VR, results, Try.results92, go_sem]) rfl ⟨HA.out _, by rw [E.out]; rfl⟩
          · clear h2 h3
            go_enter Try.func92, Try.ntmps92
            go_wp2
            refine bodyPost_ret (v := VR ((c : Int), a, false)) (by simp [VR, results, Try.results92, go_sem]) rfl ⟨HA.out _, by rw [E.out]; rfl⟩
        · have g3 : ¬ 3 ≤ d := by omega
          clear h2 h3
          go_enter Try.func92, Try.ntmps92
          go_wp2
          refine bodyPost_ret (v := VR ((c : Int), a, false)) (by simp [VR, results, Try.results92, go_sem]) rfl ⟨HA.out _, by rw [E.out]; rfl⟩
end Go.Proofs.Ytkboeldafppicaa
