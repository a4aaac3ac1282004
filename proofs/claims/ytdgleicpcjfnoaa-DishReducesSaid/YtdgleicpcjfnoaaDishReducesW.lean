/- The law DishReduces: its walk. -/
import Derived.Test.YtdgleicpcjfnoaaRedR
import Derived.Test.YtdgleicpcjfnoaaClosdR
import Derived.Test.YtdgleicpcjfnoaaReduC
import Derived.Test.YtdgleicpcjfnoaaPutO
import Derived.Test.YtdgleicpcjfnoaaRSameB
import Derived.Test.YtdgleicpcjfnoaaKnownD
import Derived.Test.YtdgleicpcjfnoaaLongB
import Derived.Test.YtdgleicpcjfnoaaDishValidatesW
set_option linter.unusedVariables false
namespace Go.Proofs.Ytdgleicpcjfnoaa
open Go.RowKit

theorem valid_red {P : Int} {its : List ItemL} {rls : List RuleL} (h : validB P its rls = 0) : validB P its (redL rls.length rls) = 0 := by
  obtain ⟨v0, v1, v2, v3, v4, v5⟩ := validB_ok h
  have hl := redL_len rls.length rls
  have hr : rulesE P (redL rls.length rls) = 0 := (rulesE_iff P _).2 fun r hr => (rulesE_iff P rls).1 v5 r (redL_mem _ _ r hr)
  unfold validB
  rw [if_neg (by omega), if_neg (by omega), if_neg (by simp [v4])]
  exact hr
theorem closd_red {P : Int} {its : List ItemL} {rls : List RuleL} (h : validB P its rls = 0) : closdL P its (redL rls.length rls) = closdL P its rls := by
  obtain ⟨v0, v1, v2, v3, v4, v5⟩ := validB_ok h
  obtain ⟨p, rfl⟩ := Int.eq_ofNat_of_zero_le v0
  have hp : p ≤ 10 := by omega
  have e1 : ¬ (validB (p : Int) its (redL rls.length rls) ≠ 0) := by simp [valid_red h]
  have e2 : ¬ (validB (p : Int) its rls ≠ 0) := by simp [h]
  unfold closdL
  rw [if_neg e1, if_neg e2, closN_red rls ((rulesP_of v5).ok hp) _ (by rw [Int.toNat_natCast]; exact Nat.pow_le_pow_right (by omega) hp)]
theorem closure_red {P : Int} {its : List ItemL} {rls : List RuleL} (ps : List Int) (h : validB P its rls = 0) : closureL P its (redL rls.length rls) ps = closureL P its rls ps := by
  obtain ⟨v0, v1, v2, v3, v4, v5⟩ := validB_ok h
  obtain ⟨p, rfl⟩ := Int.eq_ofNat_of_zero_le v0
  have hp : p ≤ 10 := by omega
  have e1 : ¬ (validB (p : Int) its (redL rls.length rls) ≠ 0) := by simp [valid_red h]
  have e2 : ¬ (validB (p : Int) its rls ≠ 0) := by simp [h]
  unfold closureL
  rw [if_neg e1, if_neg e2]
  by_cases hs : isSetFrom 0 (p : Int) ps = true
  · rw [if_pos hs, if_pos hs, (redL_ok rls.length rls (Nat.le_refl _) ((rulesP_of v5).ok hp)).2 _ (Nat.lt_of_lt_of_le (maskL_ltP (isSetFrom_ge _ _ _ hs)) (Nat.pow_le_pow_right (by omega) hp))]
  · rw [if_neg hs, if_neg hs]
/-- The box of a book. -/
structure BkX (w : World) (o : Nat) (P : Int) (i r : Value) : Prop where
  c0 : w.cell? ⟨o, 0, none⟩ = some (.int .i64 P)
  c1 : w.cell? ⟨o, 1, none⟩ = some i
  c2 : w.cell? ⟨o, 2, none⟩ = some r
  ty : ∃ cur fr, w.heap[o]? = some (.cells cur 25 fr)
theorem BkX.lt {w : World} {o : Nat} {P : Int} {i r : Value} (h : BkX w o P i r) : o < w.heap.size := cell_lt h.c0
theorem BkX.below {w w' : World} {o : Nat} {P : Int} {i r : Value} (h : BkX w o P i r) (hb : Below w.heap.size w w') : BkX w' o P i r := by
  obtain ⟨cur, fr, e⟩ := h.ty
  exact ⟨(hb.cell (cell_lt h.c0)).trans h.c0, (hb.cell (cell_lt h.c1)).trans h.c1, (hb.cell (cell_lt h.c2)).trans h.c2, cur, fr, by rw [hb.block o h.lt]; exact e⟩
theorem BkX.put {w : World} {o : Nat} {P : Int} {i r : Value} (h : BkX w o P i r) (p : Addr) (u : Value) (hp : p.block ≠ o) : BkX (w.setCell p u) o P i r := by
  obtain ⟨cur, fr, e⟩ := h.ty
  exact ⟨by rw [World.cell?_setCell_far _ _ _ _ (by dsimp only; omega)]; exact h.c0, by rw [World.cell?_setCell_far _ _ _ _ (by dsimp only; omega)]; exact h.c1, by rw [World.cell?_setCell_far _ _ _ _ (by dsimp only; omega)]; exact h.c2, cur, fr, by rw [heap_setCell_other w p o u (by omega)]; exact e⟩
theorem BkX.made (w : World) (P : Int) (i r : Value) : BkX (w.alloc (.cells #[.int .i64 P, i, r] 25)) w.heap.size P i r := ⟨by go_simp, by go_simp, by go_simp, _, _, heap_alloc_new _ _⟩
/-- The shape of a row of rules. -/
def ShpR (n : Nat) (cs : List (List Int ⊕ Int)) : Prop := cs.length = n * 2 ∧ ∀ i, i < n → (∃ xs, cs[i * 2]? = some (.inl xs) ∧ xs.length ≤ 1000) ∧ ∃ t, cs[i * 2 + 1]? = some (.inr t)
theorem ShpR.list {n : Nat} {cs : List (List Int ⊕ Int)} (h : ShpR n cs) (k : Nat) (xs : List Int) (hk : k < n) (hx : xs.length ≤ 1000) : ShpR n (cs.set (k * 2) (.inl xs)) := by
  refine ⟨by rw [List.length_set]; exact h.1, fun i hi => ?_⟩
  have h1 := h.1
  obtain ⟨⟨ys, e1, e2⟩, t, e3⟩ := h.2 i hi
  refine ⟨?_, t, by rw [List.getElem?_set_ne (by omega)]; exact e3⟩
  by_cases he : i = k
  · subst he; exact ⟨xs, List.getElem?_set_self (by omega), hx⟩
  · exact ⟨ys, by rw [List.getElem?_set_ne (by omega)]; exact e1, e2⟩
theorem ShpR.int {n : Nat} {cs : List (List Int ⊕ Int)} (h : ShpR n cs) (k : Nat) (t : Int) (hk : k < n) : ShpR n (cs.set (k * 2 + 1) (.inr t)) := by
  refine ⟨by rw [List.length_set]; exact h.1, fun i hi => ?_⟩
  have h1 := h.1
  obtain ⟨⟨ys, e1, e2⟩, s, e3⟩ := h.2 i hi
  refine ⟨⟨ys, by rw [List.getElem?_set_ne (by omega)]; exact e1, e2⟩, ?_⟩
  by_cases he : i = k
  · subst he; exact ⟨t, List.getElem?_set_self (by omega)⟩
  · exact ⟨s, by rw [List.getElem?_set_ne (by omega)]; exact e3⟩
theorem ShpR.of (rls : List RuleL) (h : ∀ i, i < rls.length → (rls[i]?.getD ([], 0)).1.length ≤ 1000) : ShpR rls.length (csR rls) :=
  ⟨csR_len rls, fun i hi => ⟨⟨_, (csR_get rls i hi).1, h i hi⟩, _, (csR_get rls i hi).2⟩⟩
theorem RowO.intc {w : World} {base : Nat} {e : TypeId} {cs : List (List Int ⊕ Int)} {n G c : Nat} (h : RowO w base e cs n (.slice (some ⟨G, 0, none⟩) n c)) {j : Nat} {t : Int} (hj : cs[j]? = some (.inr t)) : w.cell? ⟨G, j, none⟩ = some (.int .i64 t) := by
  obtain ⟨cl, h1, h2, h3⟩ := h
  obtain ⟨x, hx, ho⟩ := h2.2 _ _ hj
  cases (show x = .int .i64 t from ho)
  exact row_cells h1 _ _ hx
theorem RowO.frz {w : World} {base : Nat} {e : TypeId} {cs : List (List Int ⊕ Int)} {n G c : Nat} (h : RowO w base e cs n (.slice (some ⟨G, 0, none⟩) n c)) (j : Nat) : w.frozen? ⟨G, j, none⟩ = false := by
  obtain ⟨cl, h1, _⟩ := h
  exact h1.frozenAt j
theorem RowO.notBox {w : World} {base : Nat} {e : TypeId} {cs : List (List Int ⊕ Int)} {n G c o : Nat} (h : RowO w base e cs n (.slice (some ⟨G, 0, none⟩) n c)) {P : Int} {i r : Value} (hb : BkX w o P i r) (hne : e ≠ 25) : G ≠ o := by
  obtain ⟨cl, h1, _⟩ := h
  obtain ⟨cur, fr, e2⟩ := hb.ty
  exact fun e => own_box h1 e2 hne (by rw [← e]; rfl)
theorem Own.notBox {w : World} {base : Nat} {xs : List Int} {g n c o : Nat} (h : Own w base (.slice (some ⟨g, 0, none⟩) n c) xs) {P : Int} {i r : Value} (hb : BkX w o P i r) : g ≠ o := by
  obtain ⟨cur, fr, e2⟩ := hb.ty
  exact fun e => own_box h e2 (by decide) (by rw [← e]; rfl)

set_option maxRecDepth 100000 in
set_option maxHeartbeats 16000000 in
theorem dishReduces_walk (P : Int) (ia : Option Addr) (its : List ItemL) (ic : Nat) (ra : Option Addr) (rls : List RuleL) (rc : Nat) (a : Option Addr) (ps : List Int) (cap : Nat) (w : World) (h : BookRaw w P ia its ra rls) (h1 : ps.length ≤ 9223372036854775807) (hT : ps.length ≤ 140737488355328 → Ints w a ps) :
  Calls Try.prog 10 #[.agg #[.int .i64 P, .slice ia its.length ic, .slice ra rls.length rc], .slice a ps.length cap] w (BoolR w true) := by
  have S0 := ValS.made w P (.slice ia its.length ic) (.slice ra rls.length rc)
  have hRaw : BookRaw (w.alloc (.cells #[.int .i64 P, .slice ia its.length ic, .slice ra rls.length rc] 25)) P ia its ra rls := ⟨h.lo, h.hi, h.li, h.lr, h.items.below S0.below, h.rules.below S0.below⟩
  have HLg := hid (longBk_any P ia its ic ra rls rc _ hRaw)
  have HS0 := hid S0
  clear S0 hRaw
  by_cases hq : longBk its rls = true ∨ 60 < ps.length
  · by_cases hb : longBk its rls = true
    · rw [hb] at HLg
      clear hq hb
      go_enter Try.func10, Try.ntmps10
      go_wp2_with fail
      refine HLg.out.mono ?_
      rintro e w1 ⟨q1, rfl⟩
      have hS1 := HS0.out.keep q1
      go_wp2_with fail
      refine (knownD_any _).mono ?_
      rintro e w2 ⟨q2, rfl⟩
      go_wp2
      go_ret
      exact ⟨(hS1.keep q2).below, rfl⟩
    · have h6 : (60 : Int) < (ps.length : Int) := by have := hq.resolve_left hb; omega
      rw [Bool.not_eq_true] at hb
      rw [hb] at HLg
      clear hq hb
      go_enter Try.func10, Try.ntmps10
      go_wp2_with fail
      refine HLg.out.mono ?_
      rintro e w1 ⟨q1, rfl⟩
      have hS1 := HS0.out.keep q1
      go_wp2_with fail
      refine (knownD_any _).mono ?_
      rintro e w2 ⟨q2, rfl⟩
      go_wp2
      go_ret
      exact ⟨(hS1.keep q2).below, rfl⟩
  · have hb : longBk its rls = false := by
      rw [← Bool.not_eq_true]; exact fun hh => hq (.inl hh)
    have h6 : (ps.length : Int) ≤ 60 := by omega
    have hBk := h.book hb
    have hI := hT (by omega)
    obtain ⟨l1, l2, l3, l4⟩ := longBk_lens hb
    rw [hb] at HLg
    have HCp := hid (fun (W : World) (hb : Below w.heap.size w W) => copyBk_any P ia its ic ra rls rc W (hBk.below hb) l1 l2 l3 l4)
    have HRr := hid (fun (W : World) (hb : Below w.heap.size w W) => rReduce_any P ia its ic ra rls rc W (hBk.below hb))
    have HCd := hid (fun (W : World) (hb : Below w.heap.size w W) => dClosed_any P ia its ic ra rls rc W (hBk.below hb))
    have HCr := hid (fun (W : World) (hb : Below w.heap.size w W) => rClosed_any P ia its ic ra rls rc W (hBk.below hb))
    have HRd := hid (fun (A : Option Addr) (c : Nat) (R : Option Addr) (d : Nat) (W : World) (ho : BookAt W P A its R rls) => reduce_any P A its c R rls d W ho)
    have HSm := hid (fun (A : Option Addr) (c : Nat) (R : Option Addr) (d : Nat) (W : World) (ho : BookAt W P A its R rls) (hb : Below w.heap.size w W) => sameBk_any P A its c R rls d ia ic ra rc W ho (hBk.below hb))
    have HI := hid hI
    have HP := hid (And.intro h.lo h.hi)
    by_cases hz : validB P its rls = 0
    · obtain ⟨v0, v1, v2, v3, v4, v5⟩ := validB_ok hz
      have HCa := hid (fun (A : Option Addr) (c : Nat) (R : Option Addr) (d : Nat) (W : World) (ho : BookAt W P A its R (redL rls.length rls)) => dClosed_any P A its c R (redL rls.length rls) d W ho)
      have HE := hid (fun (W : World) (hb : Below w.heap.size w W) => closureE_any P ia its ic ra rls rc a ps cap W (hBk.below hb) (hI.below hb))
      have HEa := hid (fun (A : Option Addr) (c : Nat) (R : Option Addr) (d : Nat) (W : World) (ho : BookAt W P A its R (redL rls.length rls)) (hi : Ints W a ps) => closureE_any P A its c R (redL rls.length rls) d a ps cap W ho hi)
      rw [closd_red hz] at HCa
      rw [closure_red ps hz] at HEa
      obtain ⟨cn, hcn⟩ : ∃ cn, closdL P its rls = (cn, 0) := ⟨_, by unfold closdL; rw [if_neg (by simp [hz])]⟩
      rw [hcn] at HCa HCd HCr
      have hlen := closureL_len P its rls ps
      have hbd := closureL_bd P its rls ps
      have HLi := hid (fun i (hi : i < its.length) => show ((its[i]?.getD ([], [])).1.length ≤ 1000 ∧ ∀ x ∈ (its[i]?.getD ([], [])).1, -9223372036854775808 ≤ x ∧ x ≤ 9223372036854775807) ∧ ((its[i]?.getD ([], [])).2.length ≤ 1000 ∧ ∀ x ∈ (its[i]?.getD ([], [])).2, -9223372036854775808 ≤ x ∧ x ≤ 9223372036854775807) by
        obtain ⟨i1, i2, i3⟩ := itemsE_ok P its 0 v4 i hi
        have g2 := (isSetFrom_iff _ _ _).1 i2
        have g3 := (isSetFrom_iff _ _ _).1 i3
        exact ⟨⟨by omega, fun x hx => by have := g2.2 x hx; omega⟩, ⟨(l2 i hi).2, fun x hx => by have := g3.2 x hx; omega⟩⟩)
      have HLd := hid (show (redL rls.length rls).length ≤ 1000 ∧ ∀ i, i < (redL rls.length rls).length → ((redL rls.length rls)[i]?.getD ([], 0)).1.length ≤ 1000 ∧ (∀ x ∈ ((redL rls.length rls)[i]?.getD ([], 0)).1, -9223372036854775808 ≤ x ∧ x ≤ 9223372036854775807) ∧ -9223372036854775808 ≤ ((redL rls.length rls)[i]?.getD ([], 0)).2 ∧ ((redL rls.length rls)[i]?.getD ([], 0)).2 ≤ 9223372036854775807 by
        obtain ⟨p, rfl⟩ := Int.eq_ofNat_of_zero_le v0
        have hr : rulesE (p : Int) (redL rls.length rls) = 0 := (rulesE_iff _ _).2 fun r hr => (rulesE_iff _ rls).1 v5 r (redL_mem _ _ r hr)
        exact ⟨by have := redL_len rls.length rls; omega, rules_small hr (by omega)⟩)
      generalize hcl : closureL P its rls ps = cl at *
      obtain ⟨ms, er⟩ := cl
      dsimp only at hlen hbd
      clear hq hb hBk hT h hI l1 l2 l3 l4 v0 v1 v3 v4 v5 hcl hcn
      go_enter Try.func10, Try.ntmps10
      go_wp2_with fail
      refine HLg.out.mono ?_
      rintro e w1 ⟨q1, rfl⟩
      have HS1 := hid (HS0.out.keep q1)
      obtain ⟨a0, a1, a2, _⟩ := id HS1.out
      clear q1 HLg HS0
      go_wp2_with fail
      refine (HCp.out _ HS1.out.below).mono ?_
      rintro e w2 ⟨q2, A, c, R, d, rfl, hO⟩
      have HS2 := hid (HS1.out.keep q2)
      clear a0 a1 a2
      obtain ⟨a0, a1, a2, _⟩ := id HS2.out
      clear q2 HCp HS1
      go_upto_region 4 with (fail)
      have hAw3 : Below w2.heap.size w2 (w2.alloc (.cells #[.int .i64 P, .slice A its.length c, .slice R rls.length d] 25)) := (Below.refl _ _).alloc (Nat.le_refl _) _
      have hXw3 := BkX.made w2 P (.slice A its.length c) (.slice R rls.length d)
      have HS3 := hid (HS2.out.keep hAw3)
      have hO := hO.below hAw3
      generalize w2.alloc (.cells #[.int .i64 P, .slice A its.length c, .slice R rls.length d] 25) = w3 at *
      generalize w2.heap.size = b5 at *
      have HO := hid (fun (W : World) (hb : Below w3.heap.size w3 W) => hO.below hb)
      have HX5 := hid hXw3
      clear a0 a1 a2
      obtain ⟨a0, a1, a2, _⟩ := id HS3.out
      obtain ⟨x0, x1, x2, _⟩ := id HX5.out
      clear hAw3 hO hXw3 HS2
      go_wp2_with fail
      refine (HRd.out A c R d w3 (HO.out _ (Below.refl _ _))).mono ?_
      rintro e w4 ⟨q4, hred⟩
      have HS4 := hid (HS3.out.keep q4)
      have HX54 := hid (HX5.out.below q4)
      have hr0 : Below w3.heap.size w3 w3 := Below.refl _ _
      clear a0 a1 a2 x0 x1 x2 HRd
      rcases hred with ⟨hn, _⟩ | ⟨_, A4, c4, R4, d4, rfl, hI4, hR4⟩
      · exact absurd hz hn
      obtain ⟨a0, a1, a2, _⟩ := id HS4.out
      go_upto_region 5 with (fail)
      have hAw5 : Below w4.heap.size w4 (w4.alloc (.cells #[.int .i64 P, .slice A4 its.length c4, .slice R4 (redL rls.length rls).length d4] 25)) := (Below.refl _ _).alloc (Nat.le_refl _) _
      have hXw5 := BkX.made w4 P (.slice A4 its.length c4) (.slice R4 (redL rls.length rls).length d4)
      have HS5 := hid (HS4.out.keep hAw5)
      have HX55 := hid (HX54.out.below hAw5)
      have HI5 := hid (hI4.below hAw5)
      have HR5 := hid (hR4.below hAw5)
      have HB5 := hid (q4.trans (hAw5.mono q4.size))
      have hne6 := q4.size
      generalize w4.alloc (.cells #[.int .i64 P, .slice A4 its.length c4, .slice R4 (redL rls.length rls).length d4] 25) = w5 at *
      generalize w4.heap.size = b6 at *
      have HX6 := hid hXw5
      have HA5 := hid (show BookAt w5 P A4 its R4 (redL rls.length rls) from ⟨HI5.out.items rfl (by omega) HLi.out, HR5.out.rules rfl HLd.out.1 HLd.out.2, HP.out.1, HP.out.2⟩)
      clear a0 a1 a2 hI4 hR4 hAw5 hXw5 HS4 HX54 q4 HI5
      obtain ⟨a0, a1, a2, _⟩ := id HS5.out
      go_wp2_with fail
      refine (HRr.out _ HS5.out.below).mono ?_
      rintro e w6 ⟨q6, hred⟩
      rcases hred with ⟨hn, _⟩ | ⟨_, A6, c6, R6, d6, rfl, hbk6⟩
      · exact absurd hz hn
      have HS6 := hid (HS5.out.keep q6)
      clear a0 a1 a2
      obtain ⟨a0, a1, a2, _⟩ := id HS6.out
      go_upto_region 6 with (fail)
      have hAw7 : Below w6.heap.size w6 (w6.alloc (.cells #[.int .i64 P, .slice A6 its.length c6, .slice R6 (redL rls.length rls).length d6] 25)) := (Below.refl _ _).alloc (Nat.le_refl _) _
      have hXw7 := BkX.made w6 P (.slice A6 its.length c6) (.slice R6 (redL rls.length rls).length d6)
      have p7 : Below w5.heap.size w5 _ := q6.trans (hAw7.mono q6.size)
      have HS7 := hid (HS6.out.keep hAw7)
      have HX57 := hid (HX55.out.below p7)
      have HX67 := hid (HX6.out.below p7)
      have HR7 := hid (HR5.out.below p7)
      have HA7 := hid (HA5.out.below p7)
      have HC7 := hid (hbk6.below hAw7)
      have HB7 := hid (HB5.out.trans (p7.mono HB5.out.size))
      have hX8 := hXw7
      clear p7
      generalize w6.alloc (.cells #[.int .i64 P, .slice A6 its.length c6, .slice R6 (redL rls.length rls).length d6] 25) = w7 at *
      generalize w6.heap.size = b8 at *
      generalize redL rls.length rls = red at *
      have HX87 := hid hXw7
      clear a0 a1 a2 hX8 hXw7 hAw7 hbk6 q6 HS5 HS6 HX55 HX6 HR5 HA5 HB5 HRr
      obtain ⟨a0, a1, a2, _⟩ := id HS7.out
      go_wp2_with fail
      refine (HCd.out _ HS7.out.below).mono ?_
      rintro e w8 ⟨q8, rfl⟩
      have HS8 := hid (HS7.out.keep q8)
      clear a0 a1 a2
      obtain ⟨a0, a1, a2, _⟩ := id HS8.out
      go_wp2_with fail
      refine (HCr.out _ HS8.out.below).mono ?_
      rintro e w9 ⟨q9, rfl⟩
      have p9 : Below w7.heap.size w7 w9 := q8.trans (q9.mono q8.size)
      have HS9 := hid (HS8.out.keep q9)
      have HX59 := hid (HX57.out.below p9)
      have HX69 := hid (HX67.out.below p9)
      have HX89 := hid (HX87.out.below p9)
      have HR9 := hid (HR7.out.below p9)
      have HA9 := hid (HA7.out.below p9)
      have HC9 := hid (HC7.out.below p9)
      have HB9 := hid (HB7.out.trans (p9.mono HB7.out.size))
      clear a0 a1 a2 q8 q9 p9 HS7 HS8 HX57 HX67 HX87 HR7 HA7 HC7 HB7 HCd HCr
      obtain ⟨a0, a1, a2, _⟩ := id HS9.out
      obtain ⟨y0, y1, y2, _⟩ := id HX69.out
      obtain ⟨z0, z1, z2, _⟩ := id HX89.out
      go_wp2_with fail
      refine (sameBk_any P A4 its c4 R4 red d4 A6 c6 R6 d6 w9 HA9.out HC9.out).mono ?_
      rintro e wA ⟨qA, rfl⟩
      have HSA := hid (HS9.out.keep qA)
      have HX5A := hid (HX59.out.below qA)
      have HX6A := hid (HX69.out.below qA)
      have HRA := hid (HR9.out.below qA)
      have HAA := hid (HA9.out.below qA)
      have HBA := hid (HB9.out.trans (qA.mono HB9.out.size))
      clear a0 a1 a2 y0 y1 y2 z0 z1 z2 qA HS9 HX59 HX69 HX89 HR9 HA9 HC9 HB9
      obtain ⟨a0, a1, a2, _⟩ := id HSA.out
      obtain ⟨y0, y1, y2, _⟩ := id HX6A.out
      have hcc : (cn != cn) = false := by simp
      have hcc2 : (cn == cn) = true := by simp
      go_wp2_with fail
      refine (HCa.out A4 c4 R4 d4 _ HAA.out).mono ?_
      rintro e wB ⟨qB, rfl⟩
      have HSB := hid (HSA.out.keep qB)
      have HX6B := hid (HX6A.out.below qB)
      clear a0 a1 a2 y0 y1 y2 HCa
      obtain ⟨a0, a1, a2, _⟩ := id HSB.out
      go_wp2_with fail
      refine (HE.out _ HSB.out.below).mono ?_
      rintro e wC ⟨qC, AC, cC, rfl, oC⟩
      have pC : Below wA.heap.size wA wC := qB.trans (qC.mono qB.size)
      have HSC := hid (HSB.out.keep qC)
      have HX6C := hid (HX6A.out.below pC)
      have HAC := hid (HAA.out.below pC)
      have HRC := hid (HRA.out.below pC)
      have HX5C := hid (HX5A.out.below pC)
      have HBC := hid (HBA.out.trans (pC.mono HBA.out.size))
      obtain ⟨_, _, hv, iC⟩ := oC.ints (by dsimp only; omega) (fun x hx => by have := hbd x hx; omega)
      cases hv
      have HIC := hid iC
      clear a0 a1 a2 qB qC pC oC iC HSA HSB HX6A HX6B HAA HRA HX5A HBA HE
      obtain ⟨a0, a1, a2, _⟩ := id HSC.out
      obtain ⟨y0, y1, y2, _⟩ := id HX6C.out
      go_wp2_with fail
      refine (HEa.out A4 c4 R4 d4 _ HAC.out (HI.out.below HSC.out.below)).mono ?_
      rintro e wD ⟨qD, AD, cD, rfl, oD⟩
      have HSD := hid (HSC.out.keep qD)
      have HX6D := hid (HX6C.out.below qD)
      have HRD := hid (HRC.out.below qD)
      have HX5D := hid (HX5C.out.below qD)
      have HBD := hid (HBC.out.trans (qD.mono HBC.out.size))
      have HICD := hid (HIC.out.below qD)
      obtain ⟨_, _, hv, iD⟩ := oD.ints (by dsimp only; omega) (fun x hx => by have := hbd x hx; omega)
      cases hv
      have HID := hid iD
      clear a0 a1 a2 y0 y1 y2 qD oD iD HSC HX6C HAC HRC HX5C HBC HIC HEa
      go_wp2_with fail
      refine (same_any _ _ _ _ _ _ _ HICD.out HID.out).mono ?_
      rintro e wE ⟨⟨nE, hwE⟩, rfl⟩
      have qE : Below wD.heap.size wD wE := by rw [hwE]; exact below_drewN (Below.refl _ _) _
      have HSE := hid (HSD.out.keep qE)
      have HX6E := hid (HX6D.out.below qE)
      have HRE := hid (HRD.out.below qE)
      have HX5E := hid (HX5D.out.below qE)
      have HBE := hid (HBD.out.trans (qE.mono HBD.out.size))
      rw [show sameB ms ms = true by simp [sameB]]
      clear hwE qE HSD HX6D HRD HX5D HBD HICD HID hbd hlen
      have hlr := HLd.out.1
      have HSh := hid (ShpR.of red (fun i hi => (HLd.out.2 i hi).1))
      have hbe : (er == er) = true := by simp
      have HX5w := hid HX5.out
      go_wp2_with fail
      go_loopw [21] (fun i wr => ∃ (k : Nat) (cs : List (List Int ⊕ Int)), k ≤ red.length ∧ i = .int .i64 k ∧ Hid (ShpR red.length cs) ∧ Hid (RowO wr w3.heap.size 55 cs red.length (.slice R4 red.length d4)) ∧ Hid (BkX wr b6 P (.slice A4 its.length c4) (.slice R4 red.length d4)) ∧ Hid (Below w3.heap.size w3 wr)) (fun i _ => red.length - (intOf i).toNat)
      case atStart => exact ⟨0, csR red, Nat.zero_le _, rfl, HSh.out, HRE.out, HX6E.out, HBE.out⟩
      case round =>
        obtain ⟨k, cs, hk, rfl, HSp, HRo, HXo, HBo⟩ := hrel
        clear HSh HRE HX6E HBE
        have y2 := HXo.out.c2
        by_cases hlt : k < red.length
        · obtain ⟨G, c', hv, hG, _, _⟩ := HRo.out.head (by omega)
          simp only [Value.slice.injEq, true_and] at hv
          obtain ⟨rfl, rfl⟩ := hv
          obtain ⟨_, t, ht⟩ := HSp.out.2 k hlt
          have ct := HRo.out.intc ht
          have fz := HRo.out.frz (k * 2 + 1)
          have HRn := hid (HRo.out.putInt (by decide) (k * 2 + 1) (-1))
          have HSn := hid (HSp.out.int k (-1) hlt)
          have HXn := hid (HXo.out.put ⟨G, k * 2 + 1, none⟩ (.int .i64 (-1)) (HRo.out.notBox HXo.out (by decide)))
          have HBn := hid (HBo.out.setCell (p := ⟨G, k * 2 + 1, none⟩) hG (.int .i64 (-1)))
          have hk0 : (0 : Int) ≤ (k : Int) := by omega
          have hk1 : (k : Int) < (red.length : Int) := by omega
          have y2n := HXn.out.c2
          clear ht HSp HRo HXo HBo
          go_wp2_with fail
          obtain ⟨wo, hwo⟩ : ∃ x, x = wr := ⟨_, rfl⟩
          subst hwo
          go_loopw [22] (fun i2 wi => ∃ (j : Nat) (cs2 : List (List Int ⊕ Int)), j ≤ 1000 ∧ i2 = .int .i64 j ∧ Hid (ShpR red.length cs2) ∧ Hid (RowO wi w3.heap.size 55 cs2 red.length (.slice (some ⟨G, 0, none⟩) red.length d4)) ∧ Hid (BkX wi b6 P (.slice A4 its.length c4) (.slice (some ⟨G, 0, none⟩) red.length d4)) ∧ Hid (Below w3.heap.size w3 wi)) (fun i2 _ => 1000 - (intOf i2).toNat)
          case atStart => exact ⟨0, _, by omega, rfl, HSn.out, HRn.out, HXn.out, HBn.out⟩
          case round =>
            obtain ⟨j, cs2, hj, rfl, HSp, HRo, HXo, HBo⟩ := hrel
            clear HSn HRn HXn HBn ct fz y2 y2n
            obtain ⟨⟨xs, hx, hxl⟩, _⟩ := HSp.out.2 k hlt
            obtain ⟨A9, d9, cx, ow, hput⟩ := HRo.out.list (by decide) hx
            have y2 := HXo.out.c2
            by_cases hjl : j < xs.length
            · obtain ⟨g, rfl, hg⟩ : ∃ g, A9 = some ⟨g, 0, none⟩ ∧ w3.heap.size ≤ g := by
                rcases ow.2 with ⟨hv, hn⟩ | ⟨g, c', cur, hv, hg, _⟩
                · omega
                · simp only [Value.slice.injEq, true_and] at hv
                  exact ⟨g, hv.1, hg⟩
              have ce : wr.cell? ⟨g, j, none⟩ = some (.int .i64 (xs[j]?.getD 0)) := by
                rw [ow.cellAt j (by omega), List.getElem?_map, List.getElem?_eq_getElem hjl]; rfl
              have fe : wr.frozen? ⟨g, j, none⟩ = false := ow.frozenAt j
              have HRn := hid (hput g rfl j (-1))
              have HSn := hid (HSp.out.list k (xs.set j (-1)) hlt (by rw [List.length_set]; exact hxl))
              have HXn := hid (HXo.out.put ⟨g, j, none⟩ (.int .i64 (-1)) (Own.notBox ow HXo.out))
              have HBn := hid (HBo.out.setCell (p := ⟨g, j, none⟩) hg (.int .i64 (-1)))
              have hj0 : (0 : Int) ≤ (j : Int) := by omega
              have hj1 : (j : Int) < (xs.length : Int) := by omega
              generalize xs[j]?.getD 0 = xv at *
              clear hput ow hx HSp HRo HXo HBo
              go_wp2
              go_roundw
              case rel => exact ⟨j + 1, _, by omega, by go_num, HSn.out, HRn.out, HXn.out, HBn.out⟩
              case measure => simp [intOf]; omega
            · clear hput ow hx
              go_wp2
              go_roundw
              case rel => exact ⟨k + 1, cs2, by omega, by go_num, HSp.out, HRo.out, HXo.out, HBo.out⟩
              case measure => simp [intOf]; omega
        · obtain rfl : k = red.length := by omega
          have HSf := hid (HS3.out.keep HBo.out)
          have HXf := hid (HX5w.out.below HBo.out)
          obtain ⟨a0, a1, a2, _⟩ := id HSf.out
          obtain ⟨x0, x1, x2, _⟩ := id HXf.out
          go_wp2_with fail
          refine (HSm.out A c R d _ (HO.out _ HBo.out) HSf.out.below).mono ?_
          rintro e wF ⟨qF, rfl⟩
          have HSF := hid (HSf.out.keep qF)
          clear a0 a1 a2 x0 x1 x2
          go_wp2_with fail
          refine (knownD_any _).mono ?_
          rintro e wG ⟨qG, rfl⟩
          go_wp2
          go_ret
          exact ⟨(HSF.out.keep qG).below, rfl⟩
    · clear hq hb hBk hT h hI l1 l2 l3 l4
      go_enter Try.func10, Try.ntmps10
      go_wp2_with fail
      refine HLg.out.mono ?_
      rintro e w1 ⟨q1, rfl⟩
      have HS1 := hid (HS0.out.keep q1)
      obtain ⟨a0, a1, a2, _⟩ := id HS1.out
      clear q1 HLg HS0
      go_wp2_with fail
      refine (HCp.out _ HS1.out.below).mono ?_
      rintro e w2 ⟨q2, A, c, R, d, rfl, hO⟩
      have HS2 := hid (HS1.out.keep q2)
      clear a0 a1 a2
      obtain ⟨a0, a1, a2, _⟩ := id HS2.out
      clear q2 HCp HS1
      go_upto_region 4 with (fail)
      have hAw3 : Below w2.heap.size w2 (w2.alloc (.cells #[.int .i64 P, .slice A its.length c, .slice R rls.length d] 25)) := (Below.refl _ _).alloc (Nat.le_refl _) _
      have hXw3 := BkX.made w2 P (.slice A its.length c) (.slice R rls.length d)
      have HS3 := hid (HS2.out.keep hAw3)
      have hO := hO.below hAw3
      generalize w2.alloc (.cells #[.int .i64 P, .slice A its.length c, .slice R rls.length d] 25) = w3 at *
      generalize w2.heap.size = b5 at *
      have HO := hid (fun (W : World) (hb : Below w3.heap.size w3 W) => hO.below hb)
      have HX5 := hid hXw3
      clear a0 a1 a2
      obtain ⟨a0, a1, a2, _⟩ := id HS3.out
      obtain ⟨x0, x1, x2, _⟩ := id HX5.out
      clear hAw3 hO hXw3 HS2
      go_wp2_with fail
      refine (HRd.out A c R d w3 (HO.out _ (Below.refl _ _))).mono ?_
      rintro e w4 ⟨q4, hred⟩
      have HS4 := hid (HS3.out.keep q4)
      have HX54 := hid (HX5.out.below q4)
      have hr0 : Below w3.heap.size w3 w3 := Below.refl _ _
      clear a0 a1 a2 x0 x1 x2 HRd
      obtain ⟨_, rfl⟩ := hred.resolve_right (fun h => hz h.1)
      have HZ := hid hz
      obtain ⟨a0, a1, a2, _⟩ := id HS4.out
      go_upto_region 5 with (fail)
      have hAw5 : Below w4.heap.size w4 (w4.alloc (.cells #[.int .i64 0, .slice none 0 0, .slice none 0 0] 25)) := (Below.refl _ _).alloc (Nat.le_refl _) _
      have hXw5 := BkX.made w4 0 (.slice none 0 0) (.slice none 0 0)
      have HS5 := hid (HS4.out.keep hAw5)
      generalize w4.alloc (.cells #[.int .i64 0, .slice none 0 0, .slice none 0 0] 25) = w5 at *
      generalize w4.heap.size = b6 at *
      have HX6 := hid hXw5
      clear a0 a1 a2 hAw5 hXw5 HS4 HX54
      obtain ⟨a0, a1, a2, _⟩ := id HS5.out
      go_wp2_with fail
      refine (HRr.out _ HS5.out.below).mono ?_
      rintro e w6 ⟨q6, hred⟩
      obtain ⟨_, rfl⟩ := hred.resolve_right (fun h => hz h.1)
      have HS6 := hid (HS5.out.keep q6)
      clear a0 a1 a2
      obtain ⟨a0, a1, a2, _⟩ := id HS6.out
      go_upto_region 6 with (fail)
      have hAw7 : Below w6.heap.size w6 (w6.alloc (.cells #[.int .i64 0, .slice none 0 0, .slice none 0 0] 25)) := (Below.refl _ _).alloc (Nat.le_refl _) _
      have hXw7 := BkX.made w6 0 (.slice none 0 0) (.slice none 0 0)
      have p7 : Below w5.heap.size w5 _ := q6.trans (hAw7.mono q6.size)
      have HS7 := hid (HS6.out.keep hAw7)
      have HX67 := hid (HX6.out.below p7)
      clear p7
      generalize w6.alloc (.cells #[.int .i64 0, .slice none 0 0, .slice none 0 0] 25) = w7 at *
      generalize w6.heap.size = b8 at *
      have HX87 := hid hXw7
      have HV := hid (show closdL P its rls = (0, validB P its rls) by unfold closdL; rw [if_pos hz])
      rw [HV.out] at HCd HCr
      generalize validB P its rls = x at *
      have hxx : (x != x) = false := by simp
      have hx0 : (x != 0) = true := by simp [hz]
      clear a0 a1 a2 hXw7 hAw7 q6 HS5 HS6 HX6 HRr hz HZ HV
      obtain ⟨a0, a1, a2, _⟩ := id HS7.out
      go_wp2_with fail
      refine (HCd.out _ HS7.out.below).mono ?_
      rintro e w8 ⟨q8, rfl⟩
      have HS8 := hid (HS7.out.keep q8)
      clear a0 a1 a2
      obtain ⟨a0, a1, a2, _⟩ := id HS8.out
      go_wp2_with fail
      refine (HCr.out _ HS8.out.below).mono ?_
      rintro e w9 ⟨q9, rfl⟩
      have p9 : Below w7.heap.size w7 w9 := q8.trans (q9.mono q8.size)
      have HS9 := hid (HS8.out.keep q9)
      have HX69 := hid (HX67.out.below p9)
      have HX89 := hid (HX87.out.below p9)
      clear a0 a1 a2 q8 q9 p9 HS7 HS8 HX67 HX87 HCd HCr
      obtain ⟨a0, a1, a2, _⟩ := id HS9.out
      obtain ⟨y0, y1, y2, _⟩ := id HX69.out
      obtain ⟨z0, z1, z2, _⟩ := id HX89.out
      have HNo := hid (fun W : World => show BookAt W 0 none [] none [] from ⟨⟨by simp, .inl rfl⟩, ⟨by simp, .inl rfl⟩, by omega, by omega⟩)
      go_wp2_with fail
      refine (sameBk_any 0 none [] 0 none [] 0 none 0 none 0 w9 (HNo.out _) (HNo.out _)).mono ?_
      rintro e wA ⟨qA, rfl⟩
      have HSA := hid (HS9.out.keep qA)
      go_wp2_with fail
      refine (knownD_any _).mono ?_
      rintro e wB ⟨qB, rfl⟩
      go_wp2
      go_ret
      exact ⟨(HSA.out.keep qB).below, rfl⟩
end Go.Proofs.Ytdgleicpcjfnoaa
