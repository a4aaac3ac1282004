/- The laws' own Long of a book. -/
import Derived.Test.YtdgleicpcjfnoaaProofN
import Derived.Test.YtdgleicpcjfnoaaOpenB
/- Which books are long: plain functions. -/
set_option linter.unusedVariables false
namespace Go.Proofs.Ytdgleicpcjfnoaa

def longI : List ItemL → Bool
  | [] => false
  | x :: t => decide (40 < x.1.length ∨ 40 < x.2.length) || longI t
def longR : List RuleL → Bool
  | [] => false
  | x :: t => decide (40 < x.1.length) || longR t
def longBk (its : List ItemL) (rls : List RuleL) : Bool := decide (60 < its.length ∨ 60 < rls.length) || longI its || longR rls
theorem longI_drop (xs : List ItemL) (k : Nat) (h : k < xs.length) : longI (xs.drop k) = (decide (40 < (xs[k]?.getD ([], [])).1.length ∨ 40 < (xs[k]?.getD ([], [])).2.length) || longI (xs.drop (k + 1))) := by
  rw [List.drop_eq_getElem_cons h, longI]; simp [h]
theorem longR_drop (xs : List RuleL) (k : Nat) (h : k < xs.length) : longR (xs.drop k) = (decide (40 < (xs[k]?.getD ([], 0)).1.length) || longR (xs.drop (k + 1))) := by
  rw [List.drop_eq_getElem_cons h, longR]; simp [h]
theorem longI_false {xs : List ItemL} (h : longI xs = false) : ∀ i, i < xs.length → (xs[i]?.getD ([], [])).1.length ≤ 40 ∧ (xs[i]?.getD ([], [])).2.length ≤ 40 := by
  induction xs with
  | nil => intro i hi; simp at hi
  | cons x t ih =>
    rw [longI, Bool.or_eq_false_iff] at h
    intro i hi
    cases i with
    | zero => have := h.1; simp at this; simpa using this
    | succ i => simpa using ih h.2 i (by simpa using hi)
theorem longR_false {xs : List RuleL} (h : longR xs = false) : ∀ i, i < xs.length → (xs[i]?.getD ([], 0)).1.length ≤ 40 := by
  induction xs with
  | nil => intro i hi; simp at hi
  | cons x t ih =>
    rw [longR, Bool.or_eq_false_iff] at h
    intro i hi
    cases i with
    | zero => have := h.1; simp at this; simpa using this
    | succ i => simpa using ih h.2 i (by simpa using hi)
end Go.Proofs.Ytdgleicpcjfnoaa
set_option linter.unusedVariables false
namespace Go.Proofs.Ytdgleicpcjfnoaa
open Go.RowKit

structure BookRaw (w : World) (P : Int) (ia : Option Addr) (its : List ItemL) (ra : Option Addr) (rls : List RuleL) : Prop where
  lo : -9223372036854775808 ≤ P
  hi : P ≤ 9223372036854775807
  li : its.length ≤ 9223372036854775807
  lr : rls.length ≤ 9223372036854775807
  items : ItemsRaw w ia its
  rules : RulesRaw w ra rls
theorem SetRaw.below {w w' : World} {A : Option Addr} {xs : List Int} (h : SetRaw w A xs) (hb : Below w.heap.size w w') : SetRaw w' A xs := ⟨h.1, fun hl => (h.2 hl).below hb⟩
theorem ItemsRaw.below {w w' : World} {a : Option Addr} {its : List ItemL} (h : ItemsRaw w a its) (hb : Below w.heap.size w w') : ItemsRaw w' a its := by
  intro hl
  rcases h hl with e | ⟨b, off, ha, hc⟩
  · exact .inl e
  · refine .inr ⟨b, off, ha, fun i hi => ?_⟩
    obtain ⟨A, c, B, d, h1, h2, h3, h4⟩ := hc i hi
    exact ⟨A, c, B, d, by rw [hb.cell (cell_lt h1)]; exact h1, by rw [hb.cell (cell_lt h2)]; exact h2, h3.below hb, h4.below hb⟩
theorem RulesRaw.below {w w' : World} {a : Option Addr} {rls : List RuleL} (h : RulesRaw w a rls) (hb : Below w.heap.size w w') : RulesRaw w' a rls := by
  intro hl
  rcases h hl with e | ⟨b, off, ha, hc⟩
  · exact .inl e
  · refine .inr ⟨b, off, ha, fun i hi => ?_⟩
    obtain ⟨A, c, h1, h2, h3, h4⟩ := hc i hi
    exact ⟨A, c, by rw [hb.cell (cell_lt h1)]; exact h1, by rw [hb.cell (cell_lt h2)]; exact h2, h3.below hb, h4⟩
/-- A book that is not long can be read. -/
theorem BookRaw.book {w : World} {P : Int} {ia : Option Addr} {its : List ItemL} {ra : Option Addr} {rls : List RuleL} (h : BookRaw w P ia its ra rls) (hl : longBk its rls = false) : BookAt w P ia its ra rls := by
  rw [longBk, Bool.or_eq_false_iff, Bool.or_eq_false_iff, decide_eq_false_iff_not] at hl
  have hI := longI_false hl.1.2
  have hR := longR_false hl.2
  refine ⟨⟨by omega, ?_⟩, ⟨by omega, ?_⟩, h.lo, h.hi⟩
  · rcases h.items (by omega) with e | ⟨b, off, ha, hc⟩
    · exact .inl e
    · refine .inr ⟨b, off, ha, fun i hi => ?_⟩
      obtain ⟨A, c, B, d, h1, h2, h3, h4⟩ := hc i hi
      exact ⟨A, c, B, d, h1, h2, h3.2 (by have := hI i hi; omega), h4.2 (by have := hI i hi; omega)⟩
  · rcases h.rules (by omega) with e | ⟨b, off, ha, hc⟩
    · exact .inl e
    · refine .inr ⟨b, off, ha, fun i hi => ?_⟩
      obtain ⟨A, c, h1, h2, h3, h4⟩ := hc i hi
      exact ⟨A, c, h1, h2, h3.2 (by have := hR i hi; omega), h4⟩

set_option maxRecDepth 100000 in
set_option maxHeartbeats 4000000 in
theorem longBk_any (P : Int) (ia : Option Addr) (its : List ItemL) (ic : Nat) (ra : Option Addr) (rls : List RuleL) (rc : Nat) (w : World) (h : BookRaw w P ia its ra rls) :
  Calls Try.prog 14 #[.agg #[.int .i64 P, .slice ia its.length ic, .slice ra rls.length rc]] w (BoolR w (longBk its rls)) := by
  have hB0 := (Below.refl w.heap.size w).alloc (Nat.le_refl _) (.cells #[.int .i64 P, .slice ia its.length ic, .slice ra rls.length rc] 25)
  have hli := h.li
  have hlr := h.lr
  have HI := hid (h.items.below hB0)
  have HR := hid (h.rules.below hB0)
  have HL := hid (show longBk its rls = (decide (60 < its.length ∨ 60 < rls.length) || longI its || longR rls) from rfl)
  obtain ⟨wB, hwB⟩ : ∃ wB, w.alloc (.cells #[.int .i64 P, .slice ia its.length ic, .slice ra rls.length rc] 25) = wB := ⟨_, rfl⟩
  have a1 : wB.cell? ⟨w.heap.size, 1, none⟩ = some (.slice ia its.length ic) := by rw [← hwB]; clear hwB; go_simp
  have a2 : wB.cell? ⟨w.heap.size, 2, none⟩ = some (.slice ra rls.length rc) := by rw [← hwB]; clear hwB; go_simp
  rw [hwB] at hB0 HI HR
  clear h
  by_cases h6 : 60 < its.length
  · have h6' : (60 : Int) < (its.length : Int) := by omega
    have HF := hid (show longBk its rls = true by rw [HL.out]; simp [h6])
    go_enter Try.func14, Try.ntmps14
    go_wp2
    go_ret
    exact ⟨hB0, ret_bool HF.out.symm⟩
  · have h6' : (its.length : Int) ≤ 60 := by omega
    by_cases h7 : 60 < rls.length
    · have h7' : (60 : Int) < (rls.length : Int) := by omega
      have HF := hid (show longBk its rls = true by rw [HL.out]; simp [h7])
      go_enter Try.func14, Try.ntmps14
      go_wp2
      go_ret
      exact ⟨hB0, ret_bool HF.out.symm⟩
    · have h7' : (rls.length : Int) ≤ 60 := by omega
      have HL2 := hid (show longBk its rls = (longI its || longR rls) by rw [HL.out]; simp [h6, h7])
      clear h6 h7 HL
      have hi60 : its.length ≤ 60 := by omega
      have hr60 : rls.length ≤ 60 := by omega
      go_enter Try.func14, Try.ntmps14
      go_wp2
      clear hwB
      go_loop [3] (fun i => ∃ k : Nat, k ≤ its.length ∧ i = .int .i64 k ∧ Hid (longI its = longI (its.drop k))) (fun i => its.length - (intOf i).toNat)
      case atStart => exact ⟨0, Nat.zero_le _, rfl, rfl⟩
      case round =>
        obtain ⟨k, hk, rfl, HA⟩ := hrel
        by_cases hlt : k < its.length
        · rcases HI.out (by omega) with e | ⟨b, off, rfl, hc⟩
          · rw [e] at hlt; simp at hlt
          obtain ⟨A, c, B, d, c0, c1, s0, s1⟩ := hc k hlt
          have HD := hid (longI_drop its k hlt)
          have l0 := s0.1
          have l1 := s1.1
          clear hc s0 s1
          generalize (its[k]?.getD ([], [])).1 = ps at *
          generalize (its[k]?.getD ([], [])).2 = hs at *
          by_cases g1 : 40 < ps.length
          · have g1' : (40 : Int) < (ps.length : Int) := by omega
            have HF := hid (show longBk its rls = true by rw [HL2.out, HA.out, HD.out]; simp [g1])
            go_wp2
            go_ret
            exact ⟨hB0, ret_bool HF.out.symm⟩
          · have g1' : (ps.length : Int) ≤ 40 := by omega
            by_cases g2 : 40 < hs.length
            · have g2' : (40 : Int) < (hs.length : Int) := by omega
              have HF := hid (show longBk its rls = true by rw [HL2.out, HA.out, HD.out]; simp [g2])
              go_wp2
              go_ret
              exact ⟨hB0, ret_bool HF.out.symm⟩
            · have g2' : (hs.length : Int) ≤ 40 := by omega
              have HN := hid (show longI its = longI (its.drop (k + 1)) by rw [HA.out, HD.out]; simp [g1, g2])
              clear HA HD g1 g2
              go_wp2
              go_round
              case rel => exact ⟨k + 1, by omega, by go_num, HN⟩
              case measure => simp [intOf]; omega
        · have HN := hid (show longBk its rls = longR rls by rw [HL2.out, HA.out, List.drop_of_length_le (by omega)]; rfl)
          clear HA HL2
          go_wp2
          go_loop [4] (fun i => ∃ k : Nat, k ≤ rls.length ∧ i = .int .i64 k ∧ Hid (longR rls = longR (rls.drop k))) (fun i => rls.length - (intOf i).toNat)
          case atStart => exact ⟨0, Nat.zero_le _, rfl, rfl⟩
          case round =>
            obtain ⟨j, hj, rfl, HA⟩ := hrel
            by_cases hjlt : j < rls.length
            · rcases HR.out (by omega) with e | ⟨b, off, rfl, hc⟩
              · rw [e] at hjlt; simp at hjlt
              obtain ⟨A, c, c0, c1, s0, s1⟩ := hc j hjlt
              have HD := hid (longR_drop rls j hjlt)
              have l0 := s0.1
              clear hc s0 s1 c1
              generalize (rls[j]?.getD ([], 0)).1 = ps at *
              by_cases g1 : 40 < ps.length
              · have g1' : (40 : Int) < (ps.length : Int) := by omega
                have HF := hid (show longBk its rls = true by rw [HN.out, HA.out, HD.out]; simp [g1])
                go_wp2
                go_ret
                exact ⟨hB0, ret_bool HF.out.symm⟩
              · have g1' : (ps.length : Int) ≤ 40 := by omega
                have HM := hid (show longR rls = longR (rls.drop (j + 1)) by rw [HA.out, HD.out]; simp [g1])
                clear HA HD g1
                go_wp2
                go_round
                case rel => exact ⟨j + 1, by omega, by go_num, HM⟩
                case measure => simp [intOf]; omega
            · go_wp2
              go_ret
              exact ⟨hB0, ret_bool (by rw [HN.out, HA.out, List.drop_of_length_le (by omega)]; rfl)⟩

end Go.Proofs.Ytdgleicpcjfnoaa
