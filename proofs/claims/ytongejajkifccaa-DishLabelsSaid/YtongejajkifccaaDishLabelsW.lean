/- The law DishLabels: its walk. -/
import Derived.Test.YtongejajkifccaaRPub
import Derived.Test.YtongejajkifccaaContM
import Derived.Test.YtongejajkifccaaKnownD
import Derived.Test.YtongejajkifccaaLongB
set_option linter.unusedVariables false
namespace Go.Proofs.Ytongejajkifccaa
open Go.RowKit

theorem containsL_len (P : Int) (its : List ItemL) (rls : List RuleL) (item : Int) : (containsL P its rls item).1.length ≤ 64 := by
  unfold containsL
  split
  · simp
  · exact bitsTo_len _ _
theorem containsL_bd (P : Int) (its : List ItemL) (rls : List RuleL) (item : Int) : ∀ x ∈ (containsL P its rls item).1, 0 ≤ x ∧ x < 64 := by
  unfold containsL
  split
  · intro x hx; cases hx
  · intro x hx
    obtain ⟨i, rfl, hi, _⟩ := (mem_bitsTo _ _ x).1 hx
    omega
theorem containsL_part (P : Int) (its : List ItemL) (rls : List RuleL) (item : Int) (y : Int) (hy : y ∈ (containsL P its rls item).1) :
  (labelL P its rls y).2 = 0 ∧ ∀ x ∈ (labelL P its rls y).1, x ∈ (labelL P its rls item).1 := by
  unfold containsL at hy
  split at hy
  · cases hy
  · rename_i h; exact labelL_part (by simpa using h) y hy

/-- What the calls of Label keep in the law: the book and an element of the list of items. -/
def ElS (w wr : World) (P : Int) (i r : Value) (p : Addr) (x : Value) (w' : World) : Prop :=
  w'.cell? ⟨w.heap.size, 0, none⟩ = some (.int .i64 P) ∧ w'.cell? ⟨w.heap.size, 1, none⟩ = some i ∧ w'.cell? ⟨w.heap.size, 2, none⟩ = some r ∧ w'.cell? p = some x ∧ Below wr.heap.size wr w'
section
variable {w wr : World} {P : Int} {i r : Value} {p : Addr} {x : Value}
theorem ElS.below {w' : World} (h : ElS w wr P i r p x w') : Below wr.heap.size wr w' := h.2.2.2.2
theorem ElS.drew {w' : World} (h : ElS w wr P i r p x w') : ElS w wr P i r p x w'.drew := by
  obtain ⟨a0, a1, a2, a3, p⟩ := h
  exact ⟨a0, a1, a2, a3, p.drew⟩
theorem ElS.keep {w' w2 : World} (h : ElS w wr P i r p x w') (hb : Below w'.heap.size w' w2) : ElS w wr P i r p x w2 := by
  obtain ⟨a0, a1, a2, a3, p⟩ := h
  refine ⟨?_, ?_, ?_, ?_, p.trans (hb.mono p.size)⟩
  · rw [hb.cell (cell_lt a0)]; exact a0
  · rw [hb.cell (cell_lt a1)]; exact a1
  · rw [hb.cell (cell_lt a2)]; exact a2
  · rw [hb.cell (cell_lt a3)]; exact a3
end

set_option maxRecDepth 100000 in
set_option maxHeartbeats 8000000 in
theorem dishLabels_walk (P : Int) (ia : Option Addr) (its : List ItemL) (ic : Nat) (ra : Option Addr) (rls : List RuleL) (rc : Nat) (item : Int) (w : World) (h : BookRaw w P ia its ra rls) :
  Calls Try.prog 4 #[.agg #[.int .i64 P, .slice ia its.length ic, .slice ra rls.length rc], .int .i64 item] w (BoolR w true) := by
  have S0 := ValS.made w P (.slice ia its.length ic) (.slice ra rls.length rc)
  have hRaw : BookRaw (w.alloc (.cells #[.int .i64 P, .slice ia its.length ic, .slice ra rls.length rc] 25)) P ia its ra rls := ⟨h.lo, h.hi, h.li, h.lr, h.items.below S0.below, h.rules.below S0.below⟩
  have HLg := hid (longBk_any P ia its ic ra rls rc _ hRaw)
  have HS0 := hid S0
  clear S0 hRaw
  cases hb : longBk its rls with
  | true =>
    rw [hb] at HLg
    clear hb
    go_enter Try.func4, Try.ntmps4
    go_wp2_with fail
    refine HLg.out.mono ?_
    rintro e w1 ⟨q1, rfl⟩
    have hS1 := HS0.out.keep q1
    go_wp2_with fail
    refine (knownD_any _).mono ?_
    rintro e w2 ⟨q2, rfl⟩
    go_wp2
    go_ret
    exact ⟨(hS1.keep q2).below, rfl⟩
  | false =>
    have hBk := h.book hb
    rw [hb] at HLg
    have HC := hid (fun (w' : World) (hb : Below w.heap.size w w') => containsE_any P ia its ic ra rls rc item w' (hBk.below hb))
    have HRC := hid (fun (w' : World) (hb : Below w.heap.size w w') => rcontains_any P ia its ic ra rls rc item w' (hBk.below hb))
    have HL := hid (fun (y : Int) (w' : World) (hb : Below w.heap.size w w') => labelE_any P ia its ic ra rls rc y w' (hBk.below hb))
    have HRL := hid (fun (w' : World) (hb : Below w.heap.size w w') => rlabel_any P ia its ic ra rls rc item w' (hBk.below hb))
    have HL1 := hid (HL.out item)
    have hlc := containsL_len P its rls item
    have HBc := hid (containsL_bd P its rls item)
    have hll := labelL_len P its rls item
    have HBl := hid (labelL_bd P its rls item)
    have HPt := hid (containsL_part P its rls item)
    have HLl := hid (labelL_len P its rls)
    have HLb := hid (labelL_bd P its rls)
    clear hb hBk h
    generalize hcl : containsL P its rls item = cl at *
    clear hcl
    generalize hlb : labelL P its rls item = lb at *
    clear hlb
    obtain ⟨ms, er⟩ := cl
    obtain ⟨ls, el⟩ := lb
    dsimp only at hlc HBc hll HBl HPt
    have hbe : (er != er) = false := by simp
    have hbe2 : (el != el) = false := by simp
    go_enter Try.func4, Try.ntmps4
    go_wp2_with fail
    refine HLg.out.mono ?_
    rintro e w1 ⟨q1, rfl⟩
    have HS1 := hid (HS0.out.keep q1)
    have a0 := HS1.out.1
    have a1 := HS1.out.2.1
    have a2 := HS1.out.2.2.1
    clear q1 HLg HS0
    go_wp2_with fail
    refine (HC.out _ HS1.out.below).mono ?_
    rintro e w2 ⟨q2, A, c, rfl, o2⟩
    have HS2 := hid (HS1.out.keep q2)
    have a0 := HS2.out.1
    have a1 := HS2.out.2.1
    have a2 := HS2.out.2.2.1
    clear q2 HC HS1
    obtain ⟨_, _, hv, i2⟩ := o2.ints (by dsimp only; omega) (fun x hx => by have := HBc.out x hx; omega)
    cases hv
    dsimp only at i2 ⊢
    clear o2
    go_wp2_with fail
    refine (HRC.out _ HS2.out.below).mono ?_
    rintro e w3 ⟨q3, A3, c3, rfl, o3⟩
    have HS3 := hid (HS2.out.keep q3)
    have a0 := HS3.out.1
    have a1 := HS3.out.2.1
    have a2 := HS3.out.2.2.1
    obtain ⟨_, _, hv, i3⟩ := o3.ints (by dsimp only; omega) (fun x hx => by have := HBc.out x hx; omega)
    cases hv
    dsimp only at i3 ⊢
    have i2 := i2.below q3
    clear o3 q3 HRC HS2
    go_wp2_with fail
    refine (HL1.out _ HS3.out.below).mono ?_
    rintro e w4 ⟨q4, A4, c4, rfl, o4⟩
    have HS4 := hid (HS3.out.keep q4)
    have a0 := HS4.out.1
    have a1 := HS4.out.2.1
    have a2 := HS4.out.2.2.1
    obtain ⟨_, _, hv, i4⟩ := o4.ints (by dsimp only; omega) (fun x hx => by have := HBl.out x hx; omega)
    cases hv
    dsimp only at i4 ⊢
    have i2 := i2.below q4
    have i3 := i3.below q4
    clear o4 q4 HL1 HS3
    go_wp2_with fail
    refine (HRL.out _ HS4.out.below).mono ?_
    rintro e w5 ⟨q5, A5, c5, rfl, o5⟩
    have HS5 := hid (HS4.out.keep q5)
    have a0 := HS5.out.1
    have a1 := HS5.out.2.1
    have a2 := HS5.out.2.2.1
    obtain ⟨_, _, hv, i5⟩ := o5.ints (by dsimp only; omega) (fun x hx => by have := HBl.out x hx; omega)
    cases hv
    dsimp only at i5 ⊢
    have i2 := i2.below q5
    have i3 := i3.below q5
    have i4 := i4.below q5
    clear o5 q5 HRL HS4
    go_wp2_with fail
    refine (same_any _ _ _ _ _ _ _ i2 i3).mono ?_
    rintro e w6 ⟨⟨n, hw6⟩, rfl⟩
    have q6 : Below w5.heap.size w5 w6 := by rw [hw6]; exact below_drewN (Below.refl _ _) _
    have HS6 := hid (HS5.out.keep q6)
    have i2 := i2.below q6
    have i4 := i4.below q6
    have i5 := i5.below q6
    rw [show sameB ms ms = true by simp [sameB]]
    clear hw6 q6 HS5 i3
    go_wp2_with fail
    refine (same_any _ _ _ _ _ _ _ i4 i5).mono ?_
    rintro e w7 ⟨⟨n, hw7⟩, rfl⟩
    have q7 : Below w6.heap.size w6 w7 := by rw [hw7]; exact below_drewN (Below.refl _ _) _
    have HS7 := hid (HS6.out.keep q7)
    have i2 := i2.below q7
    have i4 := i4.below q7
    rw [show sameB ls ls = true by simp [sameB]]
    have hS7 := HS7.out
    clear hw7 q7 HS6 i5 a0 a1 a2
    go_wp2
    clear HS7
    go_loopw [13] (fun i wr => ∃ k : Nat, k ≤ ms.length ∧ i = .int .i64 k ∧ ValS w P (.slice ia its.length ic) (.slice ra rls.length rc) wr ∧ Ints wr A ms ∧ Ints wr A4 ls) (fun i _ => ms.length - (intOf i).toNat)
    case atStart => exact ⟨0, Nat.zero_le _, rfl, hS7, i2, i4⟩
    case round =>
      clear hS7 i2 i4
      obtain ⟨k, hk, rfl, hS, i2, i4⟩ := hrel
      by_cases hlt : k < ms.length
      · rcases i2.at_ with e | ⟨b, off, rfl, hc⟩
        · rw [e] at hlt; simp at hlt
        have c0 := hc k hlt
        have hy := HPt.out _ (getD_mem ms k hlt)
        clear hc
        generalize ms[k]?.getD 0 = y at *
        have HLy := hid (HL.out y)
        have hly := HLl.out y
        have HBy := hid (HLb.out y)
        obtain ⟨hy1, hy2⟩ := hy
        have HY2 := hid hy2
        generalize labelL P its rls y = ly at *
        obtain ⟨py, ey⟩ := ly
        dsimp only at hy1 HY2 hly HBy
        subst hy1
        obtain ⟨a0, a1, a2, hB⟩ := id hS
        have S0 := hid (show ElS w wr P (.slice ia its.length ic) (.slice ra rls.length rc) ⟨b, off + k, none⟩ (.int .i64 y) wr from ⟨a0, a1, a2, c0, Below.refl _ _⟩)
        have HB := hid hB
        have HS := hid hS
        have HI2 := hid i2
        have HI4 := hid i4
        have z0 : (0 : Int) ≤ (k : Int) := by omega
        have z1 : (k : Int) < (ms.length : Int) := by omega
        clear hB hS i2 i4 hy2
        go_wp2
        clear a0 a1 a2 c0
        go_region_held3 (fun w' => w'.cell? ⟨w.heap.size, 0, none⟩ = some (.int .i64 P) ∧ w'.cell? ⟨w.heap.size, 1, none⟩ = some (.slice ia its.length ic) ∧ w'.cell? ⟨w.heap.size, 2, none⟩ = some (.slice ra rls.length rc) ∧ w'.cell? ⟨b, off + k, none⟩ = some (.int .i64 y) ∧ Below wr.heap.size wr w') (first | exact S0.out.drew | exact S0.out | exact ElS.keep (by assumption) (by assumption))
          (first | (go_at_call 23; refine (HLy.out _ (HB.out.trans ((ElS.below (by assumption)).mono HB.out.size))).mono ?_; rintro en w8 ⟨hb8, A8, c8, rfl, o8'⟩; have o8 := hid o8'; clear o8'))
        have hHeld : ElS w wr P (.slice ia its.length ic) (.slice ra rls.length rc) ⟨b, off + k, none⟩ (.int .i64 y) w8 := by assumption
        have q8 := hHeld.below
        have hS8 := HS.out.keep q8
        obtain ⟨_, _, hv, i8⟩ := o8.out.ints (by first | omega | (dsimp only; omega)) (fun x hx => by have := HBy.out x hx; omega)
        cases hv
        have i2 := HI2.out.below q8
        have i4 := HI4.out.below q8
        clear o8 hHeld
        go_wp2
        go_loop [16] (fun i => ∃ j : Nat, j ≤ py.length ∧ i = .int .i64 j) (fun i => py.length - (intOf i).toNat)
        case atStart => exact ⟨0, Nat.zero_le _, rfl⟩
        case round =>
          obtain ⟨j, hj, rfl⟩ := hrel
          by_cases hjl : j < py.length
          · rcases i8.at_ with e | ⟨b8, off8, rfl, hc8⟩
            · rw [e] at hjl; simp at hjl
            have d0 := hc8 j hjl
            have hm : memB (py[j]?.getD 0) ls = true := by rw [memB, decide_eq_true_iff]; exact HY2.out _ (getD_mem py j hjl)
            clear hc8
            generalize py[j]?.getD 0 = x at *
            go_wp2_with fail
            refine (has_any _ _ _ _ _ i4).mono ?_
            rintro e w' ⟨rfl, rfl⟩
            rw [hm]
            clear hm
            go_wp2
            go_round
            case rel => exact ⟨j + 1, by omega, by go_num⟩
            case measure => simp [intOf]; omega
          · go_wp2
            go_roundw
            case rel => exact ⟨k + 1, by omega, by go_num, hS8, i2, i4⟩
            case measure => simp [intOf]; omega
      · go_wp2_with fail
        refine (knownD_any _).mono ?_
        rintro e w9 ⟨q9, rfl⟩
        go_wp2
        go_ret
        exact ⟨(hS.keep q9).below, rfl⟩
end Go.Proofs.Ytongejajkifccaa
