/- The document's own comparison of lists of rules, and of books. -/
import Derived.Test.YtdgleicpcjfnoaaSame
import Derived.Test.YtdgleicpcjfnoaaRBook
import Derived.Deep.QuietTactic
import Derived.BigQuiet
set_option linter.unusedVariables false
namespace Go.Proofs.Ytdgleicpcjfnoaa
open Go.RowKit

/-- SameInts as a quiet call. -/
theorem same_q (a b : Option Addr) (xs ys : List Int) (ca cb : Nat) (w : World) (hx : Ints w a xs) (hy : Ints w b ys) (v : Bool) (hv : sameB xs ys = v) (n : Nat) :
  Calls Try.prog 24 #[.slice a xs.length ca, .slice b ys.length cb] (w.drewN n) fun en w' => en = .returned (.bool v) ∧ ∃ m, w' = w.drewN m := by
  refine (same_any a b xs ys ca cb (w.drewN n) (ints_drewN hx n) (ints_drewN hy n)).mono ?_
  rintro en w' ⟨⟨m, rfl⟩, rfl⟩
  exact ⟨by rw [hv], n + m, World.drewN_drewN _ _ _⟩
theorem take_same {α : Type} [Inhabited α] {xs ys : List α} {d : α} (hl : xs.length = ys.length) {k : Nat} (hk : k < xs.length) (he : xs[k]?.getD d = ys[k]?.getD d) (h : xs.take k = ys.take k) : xs.take (k + 1) = ys.take (k + 1) := by
  rw [List.take_succ_eq_append_getElem hk, List.take_succ_eq_append_getElem (by omega), h]
  rw [List.getElem?_eq_getElem hk, List.getElem?_eq_getElem (by omega)] at he
  simp at he
  rw [he]
theorem sameB_eq {xs ys : List Int} (h : sameB xs ys = true) : xs = ys := by simpa [sameB] using h
theorem sameB_ne {xs ys : List Int} (h : sameB xs ys = false) : xs ≠ ys := by simpa [sameB] using h
theorem rulesAt_drewN {w : World} {a : Option Addr} {l : List RuleL} (h : RulesAt w a l) (n : Nat) : RulesAt (w.drewN n) a l := h.below (below_drewN (Below.refl _ _) _)

set_option maxRecDepth 100000 in
set_option maxHeartbeats 4000000 in
theorem sameRules_any (a b : Option Addr) (xs ys : List RuleL) (ca cb : Nat) (w : World) (hx : RulesAt w a xs) (hy : RulesAt w b ys) :
  Calls Try.prog 51 #[.slice a xs.length ca, .slice b ys.length cb] w fun en w' => (∃ n, w' = w.drewN n) ∧ en = .returned (.bool (decide (xs = ys))) := by
  have h1 := hx.len
  have h2 := hy.len
  by_cases hl : xs.length = ys.length
  · have hl' : ((xs.length : Int) != (ys.length : Int)) = false := by simp; omega
    have HX := hid hx
    have HY := hid hy
    have HL := hid hl
    clear hx hy
    rw [← hl] at hl' h2 ⊢
    clear hl
    go_enter Try.func51, Try.ntmps51
    go_wp2
    go_loopw [5] (fun i wr => ∃ (k n : Nat), k ≤ xs.length ∧ i = .int .i64 k ∧ Hid (xs.take k = ys.take k) ∧ Hid (wr = w.drewN n)) (fun i _ => xs.length - (intOf i).toNat)
    case atStart => exact ⟨0, 0, Nat.zero_le _, rfl, rfl, rfl⟩
    case round =>
      obtain ⟨k, n, hk, rfl, HT, HW⟩ := hrel
      have HXw := hid (show RulesAt wr a xs by rw [HW.out]; exact rulesAt_drewN HX.out n)
      have HYw := hid (show RulesAt wr b ys by rw [HW.out]; exact rulesAt_drewN HY.out n)
      have HWd := hid (fun m : Nat => show wr.drewN m = w.drewN (n + m) by rw [HW.out]; exact World.drewN_drewN _ _ _)
      by_cases hlt : k < xs.length
      · rcases HXw.out.at_ with e | ⟨bx, ox, rfl, hcx⟩
        · rw [e] at hlt; simp at hlt
        rcases HYw.out.at_ with e | ⟨by_, oy, rfl, hcy⟩
        · have := HL.out; rw [e] at this; rw [this] at hlt; simp at hlt
        obtain ⟨A, c, c0, c1, hA, hbd⟩ := hcx k hlt
        obtain ⟨B, d, d0, d1, hB, hbd2⟩ := hcy k (by have := HL.out; omega)
        have hlk : (k : Int) < (xs.length : Int) := by omega
        have hk0 : (0 : Int) ≤ (k : Int) := by omega
        have HE := hid (fun (e : xs[k]?.getD ([], 0) = ys[k]?.getD ([], 0)) => take_same HL.out hlt e HT.out)
        have HD := hid (fun (e : xs[k]?.getD ([], 0) ≠ ys[k]?.getD ([], 0)) => (show decide (xs = ys) = false from by rw [decide_eq_false_iff_not]; rintro rfl; exact e rfl))
        clear hcx hcy HT HX HY HXw HYw
        generalize xs[k]?.getD ([], 0) = r at *
        generalize ys[k]?.getD ([], 0) = s at *
        obtain ⟨r1, r2⟩ := r
        obtain ⟨s1, s2⟩ := s
        dsimp only at c0 c1 d0 d1 hA hB hbd hbd2
        by_cases he : r2 = s2
        · subst he
          have he' : (r2 != r2) = false := by simp
          cases hs : sameB r1 s1 with
          | true =>
            have Q1 := hid (same_q A B r1 s1 c d wr hA hB true hs)
            have HN := hid (HE.out (by rw [sameB_eq hs]))
            clear hA hB hs HE HD
            go_wp2
            go_quiet ((go_at_call 24; with_reducible exact Q1.out _))
            go_wp2
            go_roundw
            case rel => exact ⟨k + 1, _, by omega, by go_num, HN, HWd.out _⟩
            case measure => simp [intOf]; omega
          | false =>
            have Q1 := hid (same_q A B r1 s1 c d wr hA hB false hs)
            have HN := hid (HD.out (fun e => sameB_ne hs (by injection e)))
            clear hA hB hs HE HD
            go_wp2
            go_quiet ((go_at_call 24; with_reducible exact Q1.out _))
            go_wp2
            go_ret
            exact ⟨⟨_, HWd.out _⟩, ret_bool HN.out.symm⟩
        · have he' : (r2 != s2) = true := by simp [he]
          have HN := hid (HD.out (fun e => he (by injection e)))
          clear hA hB HE HD he
          go_wp2
          go_quiet (fail)
          go_wp2
          go_ret
          exact ⟨⟨_, HWd.out _⟩, ret_bool HN.out.symm⟩
      · have HS := hid (show decide (xs = ys) = true by
          have := HT.out
          rw [List.take_of_length_le (by omega), List.take_of_length_le (by have := HL.out; omega)] at this
          rw [decide_eq_true_iff]; exact this)
        clear HT HX HY
        go_wp2
        go_ret
        exact ⟨⟨n, HW.out⟩, ret_bool HS.out.symm⟩
  · have hl' : ((xs.length : Int) != (ys.length : Int)) = true := by simp; omega
    have HS := hid (show decide (xs = ys) = false by rw [decide_eq_false_iff_not]; rintro rfl; exact hl rfl)
    clear hl hx hy
    go_enter Try.func51, Try.ntmps51
    go_wp2
    go_ret
    exact ⟨⟨0, rfl⟩, ret_bool HS.out.symm⟩

/-- What Same keeps of the two books. -/
def TwoB (w : World) (P : Int) (i r i' r' : Value) (w' : World) : Prop :=
  w'.cell? ⟨w.heap.size, 0, none⟩ = some (.int .i64 P) ∧ w'.cell? ⟨w.heap.size, 1, none⟩ = some i ∧ w'.cell? ⟨w.heap.size, 2, none⟩ = some r ∧
  w'.cell? ⟨w.heap.size + 1, 0, none⟩ = some (.int .i64 P) ∧ w'.cell? ⟨w.heap.size + 1, 1, none⟩ = some i' ∧ w'.cell? ⟨w.heap.size + 1, 2, none⟩ = some r' ∧ Below w.heap.size w w'
theorem TwoB.made (w : World) (P : Int) (i r i' r' : Value) : TwoB w P i r i' r' ((w.alloc (.cells #[.int .i64 P, i, r] 25)).alloc (.cells #[.int .i64 P, i', r'] 25)) :=
  ⟨by go_simp, by go_simp, by go_simp, by go_simp, by go_simp, by go_simp, ((Below.refl _ _).alloc (Nat.le_refl _) _).alloc (by simp) _⟩
theorem TwoB.drewN {w : World} {P : Int} {i r i' r' : Value} {w' : World} (h : TwoB w P i r i' r' w') (n : Nat) : TwoB w P i r i' r' (w'.drewN n) :=
  ⟨h.1, h.2.1, h.2.2.1, h.2.2.2.1, h.2.2.2.2.1, h.2.2.2.2.2.1, below_drewN h.2.2.2.2.2.2 n⟩

set_option maxRecDepth 100000 in
set_option maxHeartbeats 4000000 in
theorem sameBk_any (P : Int) (ia : Option Addr) (its : List ItemL) (ic : Nat) (ra : Option Addr) (rls : List RuleL) (rc : Nat) (ia' : Option Addr) (ic' : Nat) (ra' : Option Addr) (rc' : Nat) (w : World)
  (h : BookAt w P ia its ra rls) (h' : BookAt w P ia' its ra' rls) :
  Calls Try.prog 19 #[.agg #[.int .i64 P, .slice ia its.length ic, .slice ra rls.length rc], .agg #[.int .i64 P, .slice ia' its.length ic', .slice ra' rls.length rc']] w (BoolR w true) := by
  have hB := ((Below.refl w.heap.size w).alloc (Nat.le_refl _) (.cells #[.int .i64 P, .slice ia its.length ic, .slice ra rls.length rc] 25)).alloc (by simp) (.cells #[.int .i64 P, .slice ia' its.length ic', .slice ra' rls.length rc'] 25)
  have HS0 := hid (TwoB.made w P (.slice ia its.length ic) (.slice ra rls.length rc) (.slice ia' its.length ic') (.slice ra' rls.length rc'))
  have HR0 := sameRules_any ra ra' rls rls rc rc' _ (h.rules.below hB) (h'.rules.below hB)
  rw [show decide (rls = rls) = true by simp] at HR0
  have HR := hid HR0
  have HI := hid h.items
  have HI' := hid h'.items
  have hl := h.items.len
  clear h h' hB HR0
  go_enter Try.func19, Try.ntmps19
  go_wp2_with fail
  refine HR.out.mono ?_
  rintro e w1 ⟨⟨n, hw1⟩, rfl⟩
  have HS1 := hid (show TwoB w P (.slice ia its.length ic) (.slice ra rls.length rc) (.slice ia' its.length ic') (.slice ra' rls.length rc') w1 by rw [hw1]; exact HS0.out.drewN n)
  clear hw1 HS0 HR
  obtain ⟨a0, a1, a2, b0, b1, b2, _⟩ := HS1.out
  go_wp2
  go_loopw [5] (fun i wr => ∃ k : Nat, k ≤ its.length ∧ i = .int .i64 k ∧ Hid (TwoB w P (.slice ia its.length ic) (.slice ra rls.length rc) (.slice ia' its.length ic') (.slice ra' rls.length rc') wr)) (fun i _ => its.length - (intOf i).toNat)
  case atStart => exact ⟨0, Nat.zero_le _, rfl, HS1.out⟩
  case round =>
    clear a0 a1 a2 b0 b1 b2 HS1
    obtain ⟨k, hk, rfl, HS⟩ := hrel
    obtain ⟨a0, a1, a2, b0, b1, b2, hBw⟩ := HS.out
    by_cases hlt : k < its.length
    · rcases (HI.out.below hBw).at_ with e | ⟨bx, ox, rfl, hcx⟩
      · rw [e] at hlt; simp at hlt
      rcases (HI'.out.below hBw).at_ with e | ⟨by_, oy, rfl, hcy⟩
      · rw [e] at hlt; simp at hlt
      obtain ⟨A, c, B, d, c0, c1, hA, hB⟩ := hcx k hlt
      obtain ⟨C, c2, D, d2, e0, e1, hC, hD⟩ := hcy k hlt
      have hlk : (k : Int) < (its.length : Int) := by omega
      have hk0 : (0 : Int) ≤ (k : Int) := by omega
      clear hcx hcy hBw a0 a2 b0 b2
      generalize its[k]?.getD ([], []) = it at *
      obtain ⟨ps, hs⟩ := it
      dsimp only at c0 c1 e0 e1 hA hB hC hD
      have Q1 := hid (same_q A C ps ps c c2 wr hA hC true (by simp [sameB]))
      have Q2 := hid (same_q B D hs hs d d2 wr hB hD true (by simp [sameB]))
      clear hA hB hC hD
      go_wp2
      go_quiet ((go_at_call 24; first | with_reducible exact Q1.out _ | with_reducible exact Q2.out _))
      go_wp2
      go_roundw
      case rel => exact ⟨k + 1, by omega, by go_num, HS.out.drewN _⟩
      case measure => simp [intOf]; omega
    · go_wp2
      go_ret
      exact ⟨HS.out.2.2.2.2.2.2, rfl⟩
end Go.Proofs.Ytdgleicpcjfnoaa
