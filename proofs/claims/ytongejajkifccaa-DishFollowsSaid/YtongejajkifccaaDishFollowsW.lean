/- The law DishFollows: its walk. -/
import Derived.Test.YtongejajkifccaaFollows
import Derived.Test.YtongejajkifccaaKnownD
import Derived.Test.YtongejajkifccaaLongB
set_option linter.unusedVariables false
namespace Go.Proofs.Ytongejajkifccaa
open Go.RowKit

theorem followsL_own {P : Int} {its : List ItemL} {rls : List RuleL} {r : RuleL} (hr : r ∈ rls) (h : (followsL P its rls r).2 = 0) : (followsL P its rls r).1 = true := by
  unfold followsL at h ⊢
  split at h
  · rename_i hz; exact absurd h hz
  · rename_i hz
    split at h
    · rename_i hb
      rw [if_neg hz, if_pos hb]
      obtain ⟨v0, v1, v2, v3, v4, v5⟩ := validB_ok (by simpa using hz)
      obtain ⟨p, rfl⟩ := Int.eq_ofNat_of_zero_le v0
      have hp : p ≤ 10 := by omega
      have hRP := rulesP_of v5
      have hm := maskL_ltP (hRP r hr).1
      have hm10 : maskL r.1 < 2 ^ 10 := Nat.lt_of_lt_of_le hm (Nat.pow_le_pow_right (by omega) hp)
      obtain ⟨c1, c2, _⟩ := closL_spec rls (hRP.ok hp) _ hm10
      exact c1 r hr fun x hx => c2 _ (by rw [testBit_maskL, decide_eq_true_iff]; exact ⟨x, hx, rfl⟩)
    · simp at h

/-- What a call keeps that is handed a rule of the book. -/
def BrrS (w wr : World) (P : Int) (i r x y : Value) (p q : Addr) (u v : Value) (w' : World) : Prop :=
  w'.cell? ⟨w.heap.size, 0, none⟩ = some (.int .i64 P) ∧ w'.cell? ⟨w.heap.size, 1, none⟩ = some i ∧ w'.cell? ⟨w.heap.size, 2, none⟩ = some r ∧ w'.cell? p = some u ∧ w'.cell? q = some v ∧ Below wr.heap.size wr w'
section
variable {w wr : World} {P : Int} {i r x y : Value} {p q : Addr} {u v : Value}
theorem BrrS.below {w' : World} (h : BrrS w wr P i r x y p q u v w') : Below wr.heap.size wr w' := h.2.2.2.2.2
theorem BrrS.drew {w' : World} (h : BrrS w wr P i r x y p q u v w') : BrrS w wr P i r x y p q u v w'.drew := by
  obtain ⟨a0, a1, a2, a3, a4, p⟩ := h
  exact ⟨a0, a1, a2, a3, a4, p.drew⟩
theorem BrrS.keep {w' w2 : World} (h : BrrS w wr P i r x y p q u v w') (hb : Below w'.heap.size w' w2) : BrrS w wr P i r x y p q u v w2 := by
  obtain ⟨a0, a1, a2, a3, a4, p⟩ := h
  refine ⟨?_, ?_, ?_, ?_, ?_, p.trans (hb.mono p.size)⟩
  · rw [hb.cell (cell_lt a0)]; exact a0
  · rw [hb.cell (cell_lt a1)]; exact a1
  · rw [hb.cell (cell_lt a2)]; exact a2
  · rw [hb.cell (cell_lt a3)]; exact a3
  · rw [hb.cell (cell_lt a4)]; exact a4
end

set_option maxRecDepth 100000 in
set_option maxHeartbeats 8000000 in
theorem dishFollows_walk (P : Int) (ia : Option Addr) (its : List ItemL) (ic : Nat) (ra : Option Addr) (rls : List RuleL) (rc : Nat) (a : Option Addr) (xs : List Int) (cap : Nat) (t which : Int) (w : World) (h : BookRaw w P ia its ra rls) (h1 : xs.length ≤ 9223372036854775807) (hT : xs.length ≤ 140737488355328 → Ints w a xs) :
  Calls Try.prog 9 #[.agg #[.int .i64 P, .slice ia its.length ic, .slice ra rls.length rc], .agg #[.slice a xs.length cap, .int .i64 t], .int .i64 which] w (BoolR w true) := by
  have S0 := BrS.made w P (.slice ia its.length ic) (.slice ra rls.length rc) (.slice a xs.length cap) (.int .i64 t)
  have hRaw : BookRaw ((w.alloc (.cells #[.int .i64 P, .slice ia its.length ic, .slice ra rls.length rc] 25)).alloc (.cells #[.slice a xs.length cap, .int .i64 t] 55)) P ia its ra rls := ⟨h.lo, h.hi, h.li, h.lr, h.items.below S0.below, h.rules.below S0.below⟩
  have HLg := hid (longBk_any P ia its ic ra rls rc _ hRaw)
  have HS0 := hid S0
  clear S0 hRaw
  by_cases hb : longBk its rls = true
  · rw [hb] at HLg
    clear hb
    go_enter Try.func9, Try.ntmps9
    go_wp2_with fail
    refine HLg.out.mono ?_
    rintro e w1 ⟨q1, rfl⟩
    have hS1 := HS0.out.keep q1
    go_wp2_with fail
    refine (knownD_any _).mono ?_
    rintro e w2 ⟨q2, rfl⟩
    go_wp2
    go_ret
    exact ⟨(hS1.keep q2).below, rfl⟩
  · rw [Bool.not_eq_true] at hb
    by_cases h6 : 60 < xs.length
    · have h6' : (60 : Int) < (xs.length : Int) := by omega
      rw [hb] at HLg
      clear hb
      go_enter Try.func9, Try.ntmps9
      go_wp2_with fail
      refine HLg.out.mono ?_
      rintro e w1 ⟨q1, rfl⟩
      have hS1 := HS0.out.keep q1
      obtain ⟨a0, a1, a2, a3, a4, _⟩ := id hS1
      go_wp2_with fail
      refine (knownD_any _).mono ?_
      rintro e w2 ⟨q2, rfl⟩
      go_wp2
      go_ret
      exact ⟨(hS1.keep q2).below, rfl⟩
    · have h6' : (xs.length : Int) ≤ 60 := by omega
      have hBk := h.book hb
      have hI := hT (by omega)
      rw [hb] at HLg
      have HF := hid (fun (w' : World) (hb : Below w.heap.size w w') => followsE_any P ia its ic ra rls rc a xs cap t w' (hBk.below hb) (hI.below hb))
      have HR := hid (fun (w' : World) (hb : Below w.heap.size w w') => rfollows_any P ia its ic ra rls rc a xs cap t w' (hBk.below hb) (hI.below hb))
      have HF2 := hid (fun (A : Option Addr) (ys : List Int) (c : Nat) (t : Int) (w' : World) (hb : Below w.heap.size w w') (hy : Ints w' A ys) => followsE_any P ia its ic ra rls rc A ys c t w' (hBk.below hb) hy)
      have HOw := hid (fun (r : RuleL) (hr : r ∈ rls) => followsL_own (P := P) (its := its) (rls := rls) hr)
      have HRu := hid hBk.rules
      have hrl := hBk.rules.len
      clear hb hBk hI hT h
      generalize followsL P its rls (xs, t) = fl at *
      obtain ⟨f1, f2⟩ := fl
      have hbe : (f1 != f1) = false := by simp
      have hbe2 : (f2 != f2) = false := by simp
      go_enter Try.func9, Try.ntmps9
      go_wp2_with fail
      refine HLg.out.mono ?_
      rintro e w1 ⟨q1, rfl⟩
      have HS1 := hid (HS0.out.keep q1)
      obtain ⟨a0, a1, a2, a3, a4, _⟩ := HS1.out
      clear q1 HLg HS0
      go_wp2_with fail
      refine (HF.out _ HS1.out.below).mono ?_
      rintro e w2 ⟨q2, rfl⟩
      have HS2 := hid (HS1.out.keep q2)
      clear a0 a1 a2 a3 a4
      obtain ⟨a0, a1, a2, a3, a4, _⟩ := HS2.out
      clear q2 HF HS1
      go_wp2_with fail
      refine (HR.out _ HS2.out.below).mono ?_
      rintro e w3 ⟨q3, rfl⟩
      have HS3 := hid (HS2.out.keep q3)
      clear a0 a1 a2 a3 a4
      obtain ⟨a0, a1, a2, a3, a4, _⟩ := HS3.out
      clear q3 HR HS2
      by_cases hr0 : rls.length = 0
      · have hr0' : ((rls.length : Int) == 0) = true := by rw [beq_iff_eq]; omega
        go_wp2_with fail
        refine (knownD_any _).mono ?_
        rintro e w4 ⟨q4, rfl⟩
        go_wp2
        go_ret
        exact ⟨(HS3.out.keep q4).below, rfl⟩
      · have hr0' : ((rls.length : Int) == 0) = false := by rw [beq_eq_false_iff_ne]; omega
        have hp3 := HS3.out.below
        obtain ⟨q, hq⟩ : ∃ q : Nat, IntKind.u64.wrap which = (q : Int) := ⟨(IntKind.u64.wrap which).toNat, by rw [IntKind.wrap_u64]; omega⟩
        have hq64 : q < 18446744073709551616 := by rw [IntKind.wrap_u64] at hq; omega
        have hlw : IntKind.u64.wrap (rls.length : Int) = (rls.length : Int) := by rw [IntKind.wrap_u64]; omega
        have hkl : q % rls.length < rls.length := Nat.mod_lt _ (by omega)
        have hmod : Int.tmod (q : Int) (rls.length : Int) = ((q % rls.length : Nat) : Int) := by rw [Int.tmod_eq_emod_of_nonneg (by omega)]; omega
        have hmod2 : (q : Int) % (rls.length : Int) = ((q % rls.length : Nat) : Int) := by omega
        generalize q % rls.length = k at *
        have hkw : IntKind.i64.wrap (k : Int) = (k : Int) := IntWalk.i64_in _ (by omega)
        have hku : IntKind.u64.wrap (k : Int) = (k : Int) := by rw [IntKind.wrap_u64]; omega
        have z0 : (0 : Int) ≤ (k : Int) := by omega
        have z1 : (k : Int) < (rls.length : Int) := by omega
        have z2 : ((rls.length : Int) == 0) = false := hr0'
        rcases ((HRu.out).below hp3).at_ with e | ⟨b, off, rfl, hc⟩
        · rw [e] at hkl; simp at hkl
        obtain ⟨A, c, c0, c1, hA, hbd⟩ := hc k hkl
        have hown := HOw.out _ (getRule_mem rls k hkl)
        have HX := hid (show rls[k]?.getD ([], 0) = ((rls[k]?.getD ([], 0)).1, (rls[k]?.getD ([], 0)).2) from rfl)
        rw [HX.out] at hown
        clear hc HX
        generalize (rls[k]?.getD ([], 0)).1 = ys at *
        generalize (rls[k]?.getD ([], 0)).2 = t2 at *
        have HFk := hid (fun (w' : World) (hb : Below w3.heap.size w3 w') => HF2.out A ys c t2 w' (hp3.trans (hb.mono hp3.size)) (hA.below hb))
        have HOk := hid hown
        generalize followsL P its rls (ys, t2) = fk at *
        obtain ⟨g1, g2⟩ := fk
        dsimp only at HOk
        have S0 := hid (show BrrS w w3 P (.slice ia its.length ic) (.slice (some ⟨b, off, none⟩) rls.length rc) (.slice a xs.length cap) (.int .i64 t) ⟨b, off + k * 2, none⟩ ⟨b, off + k * 2 + 1, none⟩ (.slice A ys.length c) (.int .i64 t2) w3 from ⟨a0, a1, a2, c0, c1, Below.refl _ _⟩)
        clear hown hA hp3
        go_wp2
        clear a0 a1 a2 a3 a4 c0 c1
        go_region_held3 (fun w' => w'.cell? ⟨w.heap.size, 0, none⟩ = some (.int .i64 P) ∧ w'.cell? ⟨w.heap.size, 1, none⟩ = some (.slice ia its.length ic) ∧ w'.cell? ⟨w.heap.size, 2, none⟩ = some (.slice (some ⟨b, off, none⟩) rls.length rc) ∧ w'.cell? ⟨b, off + k * 2, none⟩ = some (.slice A ys.length c) ∧ w'.cell? ⟨b, off + k * 2 + 1, none⟩ = some (.int .i64 t2) ∧ Below w3.heap.size w3 w') (first | exact S0.out.drew | exact S0.out | exact BrrS.keep (x := .slice a xs.length cap) (y := .int .i64 t) (by assumption) (by assumption))
          (first | (go_at_call 35; refine (HFk.out _ ?_).mono ?_; (exact BrrS.below (x := .slice a xs.length cap) (y := .int .i64 t) (by assumption)); rintro en w4 ⟨hb4, rfl⟩))
        have hHeld : BrrS w w3 P (.slice ia its.length ic) (.slice (some ⟨b, off, none⟩) rls.length rc) (.slice a xs.length cap) (.int .i64 t) ⟨b, off + k * 2, none⟩ ⟨b, off + k * 2 + 1, none⟩ (.slice A ys.length c) (.int .i64 t2) w4 := by assumption
        have hS4 := HS3.out.keep hHeld.below
        clear hHeld
        by_cases hg : g2 = 0
        · obtain rfl : g1 = true := HOk.out hg
          subst hg
          go_wp2_with fail
          refine (knownD_any _).mono ?_
          rintro e w5 ⟨q5, rfl⟩
          go_wp2
          go_ret
          exact ⟨(hS4.keep q5).below, rfl⟩
        · have hg' : (g2 != 0) = true := by simp [hg]
          clear hg
          go_wp2_with fail
          refine (knownD_any _).mono ?_
          rintro e w5 ⟨q5, rfl⟩
          go_wp2
          go_ret
          exact ⟨(hS4.keep q5).below, rfl⟩
end Go.Proofs.Ytongejajkifccaa
