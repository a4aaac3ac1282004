/- The program's Reduce. -/
import Derived.Test.YtdgleicpcjfnoaaReduM
import Derived.Test.YtdgleicpcjfnoaaFollows
set_option linter.unusedVariables false
set_option linter.unusedSimpArgs false
namespace Go.Proofs.Ytdgleicpcjfnoaa
open Go.RowKit

/-- What Reduce answers. -/
def RedR (w : World) (P : Int) (its : List ItemL) (rls : List RuleL) (en : Ending) (w' : World) : Prop :=
  Below w.heap.size w w' ∧ ((validB P its rls ≠ 0 ∧ en = .returned (.tuple #[.agg #[.int .i64 0, .slice none 0 0, .slice none 0 0], .int .i64 (validB P its rls)])) ∨
    (validB P its rls = 0 ∧ ∃ A c R d, en = .returned (.tuple #[.agg #[.int .i64 P, .slice A its.length c, .slice R (redL rls.length rls).length d], .int .i64 0]) ∧ RowO w' w.heap.size 76 (csI its) its.length (.slice A its.length c) ∧ RowO w' w.heap.size 55 (csR (redL rls.length rls)) (redL rls.length rls).length (.slice R (redL rls.length rls).length d)))
/-- The boxes of Reduce: the argument, the answer, and the book that is being reduced. -/
structure RdB (w0 w : World) (q : Nat) (P : Int) (i r : Value) (v1 v2 : Value) : Prop where
  b0 : w.cell? ⟨w0.heap.size, 0, none⟩ = some (.int .i64 P)
  b1 : w.cell? ⟨w0.heap.size, 1, none⟩ = some i
  b2 : w.cell? ⟨w0.heap.size, 2, none⟩ = some r
  r0 : w.cell? ⟨w0.heap.size + 1, 0, none⟩ = some (.int .i64 0)
  r1 : w.cell? ⟨w0.heap.size + 1, 1, none⟩ = some (.slice none 0 0)
  r2 : w.cell? ⟨w0.heap.size + 1, 2, none⟩ = some (.slice none 0 0)
  rf : ∀ j, j < 3 → w.frozen? ⟨w0.heap.size + 1, j, none⟩ = false
  c0 : w.cell? ⟨q, 0, none⟩ = some (.int .i64 P)
  c1 : w.cell? ⟨q, 1, none⟩ = some v1
  c2 : w.cell? ⟨q, 2, none⟩ = some v2
  cf : w.frozen? ⟨q, 2, none⟩ = false
  cq : ∃ cur fr, w.heap[q]? = some (.cells cur 25 fr)
  hq : w0.heap.size + 2 ≤ q
  bel : Below w0.heap.size w0 w
theorem RdB.lt {w0 w : World} {q : Nat} {P : Int} {i r v1 v2 : Value} (h : RdB w0 w q P i r v1 v2) : q < w.heap.size := cell_lt h.c0
theorem RdB.below {w0 w w' : World} {q : Nat} {P : Int} {i r v1 v2 : Value} (h : RdB w0 w q P i r v1 v2) (hb : Below w.heap.size w w') : RdB w0 w' q P i r v1 v2 := by
  have hc : ∀ {a : Addr} {u : Value}, w.cell? a = some u → w'.cell? a = some u := fun hu => (hb.cell (cell_lt hu)).trans hu
  have hlt := h.lt
  have hq := h.hq
  obtain ⟨cur, fr, e⟩ := h.cq
  exact ⟨hc h.b0, hc h.b1, hc h.b2, hc h.r0, hc h.r1, hc h.r2, fun j hj => (hb.frozen (p := ⟨_, _, none⟩) (by show w0.heap.size + 1 < _; omega)).trans (h.rf j hj), hc h.c0, hc h.c1, hc h.c2, (hb.frozen (p := ⟨_, _, none⟩) (by show q < _; omega)).trans h.cf, ⟨cur, fr, by rw [hb.block q hlt]; exact e⟩, h.hq, h.bel.trans (hb.mono h.bel.size)⟩
theorem RdB.put2 {w0 w : World} {q : Nat} {P : Int} {i r v1 v2 : Value} (h : RdB w0 w q P i r v1 v2) (u : Value) : RdB w0 (w.setCell ⟨q, 2, none⟩ u) q P i r v1 u := by
  obtain ⟨b0, b1, b2, r0, r1, r2, rf, c0, c1, c2, cf, ⟨cur, fr, cq⟩, hq, bel⟩ := h
  exact ⟨by go_simp, by go_simp, by go_simp, by go_simp, by go_simp, by go_simp, fun j hj => by have := rf j hj; go_simp, by go_simp, by go_simp, by go_simp, by go_simp, box_set u cq, hq, bel.setCell (by show w0.heap.size ≤ q; omega) _⟩

set_option maxRecDepth 100000 in
set_option maxHeartbeats 4000000 in
theorem reduce_any (P : Int) (ia : Option Addr) (its : List ItemL) (ic : Nat) (ra : Option Addr) (rls : List RuleL) (rc : Nat) (w : World) (h : BookAt w P ia its ra rls) :
  Calls Try.prog 36 #[.agg #[.int .i64 P, .slice ia its.length ic, .slice ra rls.length rc]] w (RedR w P its rls) := by
  obtain ⟨w1, hw1⟩ : ∃ w1, (w.alloc (.cells #[.int .i64 P, .slice ia its.length ic, .slice ra rls.length rc] 25)).alloc (.cells #[.int .i64 0, .slice none 0 0, .slice none 0 0] 25) = w1 := ⟨_, rfl⟩
  have hB1 : Below w.heap.size w w1 := by rw [← hw1]; exact ((Below.refl _ _).alloc (Nat.le_refl _) _).alloc (by simp) _
  have HN := hid (validateB_any P ia its ic ra rls rc _ (h.below hB1))
  have a0 : w1.cell? ⟨w.heap.size, 0, none⟩ = some (.int .i64 P) := by rw [← hw1]; clear hw1; go_simp
  have a1 : w1.cell? ⟨w.heap.size, 1, none⟩ = some (.slice ia its.length ic) := by rw [← hw1]; clear hw1; go_simp
  have a2 : w1.cell? ⟨w.heap.size, 2, none⟩ = some (.slice ra rls.length rc) := by rw [← hw1]; clear hw1; go_simp
  have s0 : w1.cell? ⟨w.heap.size + 1, 0, none⟩ = some (.int .i64 0) := by rw [← hw1]; clear hw1; go_simp
  have s1 : w1.cell? ⟨w.heap.size + 1, 1, none⟩ = some (.slice none 0 0) := by rw [← hw1]; clear hw1; go_simp
  have s2 : w1.cell? ⟨w.heap.size + 1, 2, none⟩ = some (.slice none 0 0) := by rw [← hw1]; clear hw1; go_simp
  have sf : ∀ j, j < 3 → w1.frozen? ⟨w.heap.size + 1, j, none⟩ = false := by rw [← hw1]; clear hw1; exact fun j hj => by go_simp
  have hs1 : w1.heap.size = w.heap.size + 2 := by rw [← hw1]; simp
  have HK := hid (And.intro a0 (And.intro a1 (And.intro a2 (And.intro s0 (And.intro s1 (And.intro s2 sf))))))
  have HB := hid h
  clear h
  go_enter Try.func36, Try.ntmps36
  go_upto_region 1 with (fail)
  clear hw1
  go_wp2_with fail
  refine HN.out.mono ?_
  rintro e w3 ⟨q3, rfl⟩
  clear HN
  obtain ⟨a0, a1, a2, s0, s1, s2, sf⟩ := HK.out
  have hc : ∀ {a : Addr} {u : Value}, w1.cell? a = some u → w3.cell? a = some u := fun hu => (q3.cell (cell_lt hu)).trans hu
  have a0 := hc a0
  have a1 := hc a1
  have a2 := hc a2
  have s0 := hc s0
  have s1 := hc s1
  have s2 := hc s2
  have sf : ∀ j, j < 3 → w3.frozen? ⟨w.heap.size + 1, j, none⟩ = false := fun j hj => (q3.frozen (p := ⟨_, _, none⟩) (by show w.heap.size + 1 < _; omega)).trans (sf j hj)
  have hB3 : Below w.heap.size w w3 := hB1.trans (q3.mono (by omega))
  clear hc HK
  by_cases hz : validB P its rls = 0
  · obtain ⟨v0, v1, v2, v3, v4, v5⟩ := validB_ok hz
    obtain ⟨p, rfl⟩ := Int.eq_ofNat_of_zero_le v0
    have hCP := copyOf_any (p : Int) ia its ic ra rls rc w3 (HB.out.below hB3) (by omega) (fun i hi => by have := itemsE_ok (p : Int) its 0 v4 i hi; have h2 := isSet_len this.2.2; omega) (by omega) (fun i hi => (rules_small v5 (by omega) i hi).1)
    have HCP := hid hCP
    have HV := hid (And.intro hz (And.intro v1 (And.intro v3 v5)))
    clear hCP
    rw [hz]
    clear hz v1 v2 v3 v4 v5
    go_wp2_with fail
    refine HCP.out.mono ?_
    rintro e w4 ⟨q4, A, c, R, d, rfl, hI, hR⟩
    obtain ⟨w5, hw5⟩ : ∃ w5, w4.alloc (.cells #[.int .i64 (p : Int), .slice A its.length c, .slice R rls.length d] 25) = w5 := ⟨_, rfl⟩
    have h45 : Below w4.heap.size w4 w5 := by rw [← hw5]; exact (Below.refl _ _).alloc (Nat.le_refl _) _
    have hc : ∀ {a : Addr} {u : Value}, w3.cell? a = some u → w5.cell? a = some u := fun hu => by
      have h4 := (q4.cell (cell_lt hu)).trans hu
      exact (h45.cell (cell_lt h4)).trans h4
    have e0 : w5.cell? ⟨w4.heap.size, 0, none⟩ = some (.int .i64 (p : Int)) := by rw [← hw5]; clear hw5; go_simp
    have e1 : w5.cell? ⟨w4.heap.size, 1, none⟩ = some (.slice A its.length c) := by rw [← hw5]; clear hw5; go_simp
    have e2 : w5.cell? ⟨w4.heap.size, 2, none⟩ = some (.slice R rls.length d) := by rw [← hw5]; clear hw5; go_simp
    have ef : w5.frozen? ⟨w4.heap.size, 2, none⟩ = false := by rw [← hw5]; clear hw5; go_simp
    have hsz3 := hB1.size
    have hsz4 := q4.size
    have hsz5 := q3.size
    have hlt3 := cell_lt s0
    have HD := hid (show RdB w w5 w4.heap.size (p : Int) (.slice ia its.length ic) (.slice ra rls.length rc) (.slice A its.length c) (.slice R rls.length d) from
      ⟨hc a0, hc a1, hc a2, hc s0, hc s1, hc s2, fun j hj => by
        have f3 := sf j hj
        have f4 := (q4.frozen (p := ⟨w.heap.size + 1, j, none⟩) hlt3).trans f3
        exact (h45.frozen (p := ⟨w.heap.size + 1, j, none⟩) (Nat.lt_of_lt_of_le hlt3 hsz4)).trans f4, e0, e1, e2, ef, ⟨_, _, by rw [← hw5]; exact heap_alloc_new _ _⟩, by omega, (hB3.trans (q4.mono hB3.size)).trans (h45.mono (by omega))⟩)
    have HI5 := hid ((hI.weak (b' := w.heap.size + 2) (by omega)).below h45)
    have HR5 := hid ((hR.weak (b' := w.heap.size + 2) (by omega)).below h45)
    generalize hq : w4.heap.size = q at *
    clear a0 a1 a2 s0 s1 s2 sf hc e0 e1 ef hI hR HB h45 q4 HCP hsz3 hsz4 hsz5 hlt3
    go_upto_region 6 with (fail)
    clear hw5 e2
    have hlr := HV.out.2.2.1
    have hp10 : p ≤ 10 := by have := HV.out.2.1; omega
    go_loopw [6] (fun i wr => ∃ (k : Nat) (cur : List RuleL) (R : Option Addr) (d : Nat), k ≤ cur.length ∧ i = .int .i64 ((k : Int) - 1) ∧ Hid (redL k cur = redL rls.length rls ∧ rulesE (p : Int) cur = 0 ∧ cur.length ≤ 16) ∧ Hid (RdB w wr q (p : Int) (.slice ia its.length ic) (.slice ra rls.length rc) (.slice A its.length c) (.slice R cur.length d)) ∧ Hid (RowO wr (w.heap.size + 2) 76 (csI its) its.length (.slice A its.length c)) ∧ Hid (RowO wr (w.heap.size + 2) 55 (csR cur) cur.length (.slice R cur.length d))) (fun i _ => (intOf i + 1).toNat)
    case atStart => exact ⟨rls.length, rls, R, d, Nat.le_refl _, congrArg (Value.int .i64) (by unfold wrap64; omega), ⟨rfl, HV.out.2.2.2, HV.out.2.2.1⟩, HD.out, HI5.out, HR5.out⟩
    case round =>
      obtain ⟨k, cur, R, d, hk, rfl, HE, HD2, HI2, HR2⟩ := hrel
      clear HD HI5 HR5
      obtain ⟨b0, b1, b2, r0, r1, r2, rf, c0, c1, c2, cf, cq, hq2, bel⟩ := HD2.out
      have hlc := HE.out.2.2
      rcases Nat.eq_zero_or_pos k with rfl | hkp
      · have hneg : ¬ (0 : Int) ≤ ((0 : Nat) : Int) - 1 := by omega
        have f0 := rf 0 (by omega)
        have f1 := rf 1 (by omega)
        have f2 := rf 2 (by omega)
        clear b0 b1 b2 rf cq bel cf
        have hcur : redL rls.length rls = cur := HE.out.1.symm
        go_wp2
        refine bodyPost_ret (v := .tuple #[.agg #[.int .i64 (p : Int), .slice A its.length c, .slice R cur.length d], .int .i64 0]) (by simp [results, Try.results36, go_sem, r0, r1, r2]) rfl ⟨((HD2.out.bel.setCell (by show w.heap.size ≤ w.heap.size + 1; omega) _).setCell (by show w.heap.size ≤ w.heap.size + 1; omega) _).setCell (by show w.heap.size ≤ w.heap.size + 1; omega) _, .inr ⟨HV.out.1, A, c, R, d, by rw [hcur], (((HI2.out.setCell _ _ (by show w.heap.size + 1 < _; omega)).setCell _ _ (by show w.heap.size + 1 < _; omega)).setCell _ _ (by show w.heap.size + 1 < _; omega)).weak (by omega), by rw [hcur]; exact (((HR2.out.setCell _ _ (by show w.heap.size + 1 < _; omega)).setCell _ _ (by show w.heap.size + 1 < _; omega)).setCell _ _ (by show w.heap.size + 1 < _; omega)).weak (by omega)⟩⟩
      · obtain ⟨j, rfl⟩ : ∃ j, k = j + 1 := ⟨k - 1, by omega⟩
        have hi : ((j + 1 : Nat) : Int) - 1 = (j : Int) := by omega
        rw [hi]
        have hge : (0 : Int) ≤ (j : Int) := by omega
        clear b0 b1 b2 r0 r1 r2 rf c0 c1 cq bel
        go_wp2_with fail
        have hlw := HD2.out.lt
        refine (cloneR_any (w.heap.size + 2) (csR cur) cur.length R d wr HR2.out (by omega) (by omega)).mono ?_
        rintro e w6 ⟨q6, B, d6, rfl, hR6, hf6⟩
        go_wp2_with fail
        refine (deleteR_any (w.heap.size + 2) wr.heap.size (csR cur) cur.length j B d6 w6 hR6 (by omega) (by omega) hf6).mono ?_
        rintro e w7 ⟨q7, rfl, hR7⟩
        have h7 : Below wr.heap.size wr w7 := q6.trans q7
        have hle : (cur.eraseIdx j).length = cur.length - 1 := by rw [List.length_eraseIdx, if_pos (by omega)]
        rw [csR_erase, ← hle] at hR7
        have hAt := hR7.rules rfl (by omega) (rules_small (rulesE_erase HE.out.2.1 j) hp10)
        have HD7 := hid (HD2.out.below h7)
        have HI7 := hid (HI2.out.below h7)
        have HR7 := hid hR7
        have HQ7 := hid (HR2.out.below h7)
        rcases (HQ7.out.rules rfl (by omega) (rules_small HE.out.2.1 hp10)).at_ with e | ⟨b, off, rfl, hcs⟩
        · rw [e] at hk; simp at hk
        obtain ⟨X, xc, x0, x1, hX, _⟩ := hcs j (by omega)
        obtain ⟨rr1, rr2, rr3⟩ := rulesE_ok (p : Int) cur HE.out.2.1 j (by omega)
        have HFB := hid (show redL (j + 1) cur = redL j (if folB (cur.eraseIdx j) (cur[j]?.getD ([], 0)) then cur.eraseIdx j else cur) from rfl)
        have HEr := hid (rulesE_erase HE.out.2.1 j)
        have c27 := HD7.out.c2
        have f27 := HD7.out.cf
        have hjl : (j : Int) < (cur.length : Int) := by omega
        generalize cur[j]?.getD ([], 0) = rl at *
        obtain ⟨xs, t⟩ := rl
        dsimp only at x0 x1 hX rr1 rr2 rr3
        obtain ⟨t, rfl⟩ := Int.eq_ofNat_of_zero_le rr2
        have HF := hid ((follows_any p B (cur.eraseIdx j) d6 X xs xc t w7 hAt hX (by have := HV.out.2.1; omega) (by omega) HEr.out (isSetFrom_ge _ _ _ rr1) (by omega)))
        clear hAt hX hR6 hf6 hR7 hcs c2 cf q6 q7 h7 HD2 HI2 HR2 rr1 rr2 rr3
        rw [← hle]
        clear hi
        generalize cur.eraseIdx j = oth at *
        have HLE := hid hle
        have HW := hid (show wrap64 ((j : Int) - 1) = (j : Int) - 1 by unfold wrap64; omega)
        clear hlc hle hlr v0 hB3 hB1
        go_wp2_with fail
        refine HF.out.mono ?_
        rintro e w8 ⟨q8, rfl⟩
        have HD8 := hid (HD7.out.below q8)
        have HI8 := hid (HI7.out.below q8)
        have HR8 := hid (HR7.out.below q8)
        have HQ8 := hid (HQ7.out.below q8)
        have c28 := HD8.out.c2
        have f28 := HD8.out.cf
        clear HD7 HI7 HR7 HQ7 HF q8 c27 f27 x0 x1
        cases hcl : (closL oth (maskL xs)).testBit t with
        | true =>
          have HFc := hid (show folB oth (xs, (t : Int)) = true from hcl)
          clear hcl
          go_wp2
          go_roundw
          case rel =>
            obtain ⟨cb, fr, hb⟩ := HD8.out.cq
            have hlo := HLE.out
            exact ⟨j, oth, B, d6, by omega, congrArg (Value.int .i64) HW.out, ⟨by rw [← HE.out.1, HFB.out, if_pos HFc.out], HEr.out, by have := HE.out.2.2; omega⟩, HD8.out.put2 _, HI8.out.box hb (by decide) (by decide) _, HR8.out.box hb (by decide) (by decide) _⟩
          case measure => simp [intOf, HW.out]
        | false =>
          have HFc := hid (show ¬ folB oth (xs, (t : Int)) = true by rw [show folB oth (xs, (t : Int)) = false from hcl]; decide)
          clear hcl
          go_wp2
          go_roundw
          case rel =>
            exact ⟨j, cur, _, d, by omega, congrArg (Value.int .i64) HW.out, ⟨by rw [← HE.out.1, HFB.out, if_neg HFc.out], HE.out.2.1, HE.out.2.2⟩, HD8.out, HI8.out, HQ8.out⟩
          case measure => simp [intOf, HW.out]
  · have f0 := sf 0 (by omega)
    have f1 := sf 1 (by omega)
    have f2 := sf 2 (by omega)
    have HZ := hid hz
    have HBz := hid hB3
    clear sf HB hB3 hB1 q3 a0 a1 a2
    generalize hev : validB P its rls = e at *
    have HEV := hid hev
    clear hev
    go_wp2
    refine bodyPost_ret (v := .tuple #[.agg #[.int .i64 0, .slice none 0 0, .slice none 0 0], .int .i64 e]) (by simp [results, Try.results36, go_sem, s0, s1, s2]) rfl ⟨((HBz.out.setCell (by show w.heap.size ≤ w.heap.size + 1; omega) _).setCell (by show w.heap.size ≤ w.heap.size + 1; omega) _).setCell (by show w.heap.size ≤ w.heap.size + 1; omega) _, .inl ⟨by rw [HEV.out]; exact HZ.out, by rw [HEV.out]⟩⟩
end Go.Proofs.Ytdgleicpcjfnoaa
