/- The document's Reduce (written by gen_redr.py). -/
import Derived.Test.YtdgleicpcjfnoaaCurS
import Derived.Test.YtdgleicpcjfnoaaReduP
import Derived.Test.YtdgleicpcjfnoaaRSets
import Derived.Test.YtdgleicpcjfnoaaRBase
set_option linter.unusedVariables false
set_option linter.unusedSimpArgs false
namespace Go.Proofs.Ytdgleicpcjfnoaa
open Go.RowKit

theorem radd_none (b off i : Nat) : (⟨b, off, none⟩ : Addr).add i = ⟨b, off + i, none⟩ := by
  unfold Addr.add; split
  · simp_all
  · rfl
/-- What Reduce of the document answers. -/
def RedRd (w : World) (P : Int) (its : List ItemL) (rls : List RuleL) (en : Ending) (w' : World) : Prop :=
  Below w.heap.size w w' ∧ ((validB P its rls ≠ 0 ∧ en = .returned (.tuple #[.agg #[.int .i64 0, .slice none 0 0, .slice none 0 0], .int .i64 (validB P its rls)])) ∨
    (validB P its rls = 0 ∧ ∃ A c R d, en = .returned (.tuple #[.agg #[.int .i64 P, .slice A its.length c, .slice R (redL rls.length rls).length d], .int .i64 0]) ∧ BookAt w' P A its R (redL rls.length rls)))
set_option maxRecDepth 100000 in
set_option maxHeartbeats 8000000 in
theorem rReduce_any (P : Int) (ia : Option Addr) (its : List ItemL) (ic : Nat) (ra : Option Addr) (rls : List RuleL) (rc : Nat) (w : World) (h : BookAt w P ia its ra rls) :
  Calls Try.prog 37 #[.agg #[.int .i64 P, .slice ia its.length ic, .slice ra rls.length rc]] w (RedRd w P its rls) := by
  obtain ⟨i0, hinf, hi0, hi1, hi2⟩ := info_parts rule_info
  obtain ⟨w1, hw1⟩ : ∃ w1, (w.alloc (.cells #[.int .i64 P, .slice ia its.length ic, .slice ra rls.length rc] 25)).alloc (.cells #[.int .i64 0, .slice none 0 0, .slice none 0 0] 25) = w1 := ⟨_, rfl⟩
  have hB1 : Below w.heap.size w w1 := by rw [← hw1]; exact ((Below.refl _ _).alloc (Nat.le_refl _) _).alloc (by simp) _
  have HN := hid (rvalidB_any P ia its ic ra rls rc _ (h.below hB1))
  have a0 : w1.cell? ⟨w.heap.size, 0, none⟩ = some (.int .i64 P) := by rw [← hw1]; clear hw1; go_simp
  have a1 : w1.cell? ⟨w.heap.size, 1, none⟩ = some (.slice ia its.length ic) := by rw [← hw1]; clear hw1; go_simp
  have a2 : w1.cell? ⟨w.heap.size, 2, none⟩ = some (.slice ra rls.length rc) := by rw [← hw1]; clear hw1; go_simp
  have s0 : w1.cell? ⟨w.heap.size + 1, 0, none⟩ = some (.int .i64 0) := by rw [← hw1]; clear hw1; go_simp
  have s1 : w1.cell? ⟨w.heap.size + 1, 1, none⟩ = some (.slice none 0 0) := by rw [← hw1]; clear hw1; go_simp
  have s2 : w1.cell? ⟨w.heap.size + 1, 2, none⟩ = some (.slice none 0 0) := by rw [← hw1]; clear hw1; go_simp
  have sf : ∀ j, j < 3 → w1.frozen? ⟨w.heap.size + 1, j, none⟩ = false := by rw [← hw1]; clear hw1; exact fun j hj => by go_simp
  have hs1 : w1.heap.size = w.heap.size + 2 := by rw [← hw1]; simp
  have HK := hid (And.intro a0 (And.intro a1 (And.intro a2 (And.intro s0 (And.intro s1 (And.intro s2 sf))))))
  have HB := hid h
  clear h
  go_enter Try.func37, Try.ntmps37
  go_upto_region 1 with (fail)
  clear hw1
  go_wp2_with fail
  refine HN.out.mono ?_
  rintro e w3 ⟨q3, rfl⟩
  clear HN
  obtain ⟨a0, a1, a2, s0, s1, s2, sf⟩ := HK.out
  have hc : ∀ {a : Addr} {u : Value}, w1.cell? a = some u → w3.cell? a = some u := fun hu => (q3.cell (cell_lt hu)).trans hu
  have a0 := hc a0
  have a1 := hc a1
  have a2 := hc a2
  have s0 := hc s0
  have s1 := hc s1
  have s2 := hc s2
  have sf : ∀ j, j < 3 → w3.frozen? ⟨w.heap.size + 1, j, none⟩ = false := fun j hj => (q3.frozen (p := ⟨_, _, none⟩) (by show w.heap.size + 1 < _; omega)).trans (sf j hj)
  have hB3 : Below w.heap.size w w3 := hB1.trans (q3.mono (by omega))
  clear hc HK
  by_cases hz : validB P its rls = 0
  · obtain ⟨v0, v1, v2, v3, v4, v5⟩ := validB_ok hz
    obtain ⟨p, rfl⟩ := Int.eq_ofNat_of_zero_le v0
    have hCP := copyBkF_any (p : Int) ia its ic ra rls rc w3 (HB.out.below hB3) (by omega) (fun i hi => by have := itemsE_ok (p : Int) its 0 v4 i hi; have h2 := isSet_len this.2.2; omega) (by omega) (fun i hi => (rules_small v5 (by omega) i hi).1)
    have HCP := hid hCP
    have HV := hid (And.intro hz (And.intro v1 (And.intro v3 v5)))
    have HV2 := hid v2
    clear hCP
    rw [hz]
    clear hz v1 v2 v3 v4 v5
    go_wp2_with fail
    refine HCP.out.mono ?_
    rintro e w4 ⟨q4, A, c, R, d, g, m, rfl, hcf, hlo, hhi⟩
    obtain ⟨w5, hw5⟩ : ∃ w5, w4.alloc (.cells #[.int .i64 (p : Int), .slice A its.length c, .slice R rls.length d] 25) = w5 := ⟨_, rfl⟩
    have h45 : Below w4.heap.size w4 w5 := by rw [← hw5]; exact (Below.refl _ _).alloc (Nat.le_refl _) _
    have hc : ∀ {a : Addr} {u : Value}, w3.cell? a = some u → w5.cell? a = some u := fun hu => by
      have h4 := (q4.cell (cell_lt hu)).trans hu
      exact (h45.cell (cell_lt h4)).trans h4
    have e0 : w5.cell? ⟨w4.heap.size, 0, none⟩ = some (.int .i64 (p : Int)) := by rw [← hw5]; clear hw5; go_simp
    have e1 : w5.cell? ⟨w4.heap.size, 1, none⟩ = some (.slice A its.length c) := by rw [← hw5]; clear hw5; go_simp
    have e2 : w5.cell? ⟨w4.heap.size, 2, none⟩ = some (.slice R rls.length d) := by rw [← hw5]; clear hw5; go_simp
    have ef : w5.frozen? ⟨w4.heap.size, 2, none⟩ = false := by rw [← hw5]; clear hw5; go_simp
    have hsz3 := hB1.size
    have hsz4 := q4.size
    have hsz5 := q3.size
    have hlt3 := cell_lt s0
    have hgl := hcf.glo
    have hgm := hcf.gm
    have hmw := hcf.mw
    have hz5 : w4.heap.size < w5.heap.size := cell_lt e0
    have HD := hid (show RdB w w5 w4.heap.size (p : Int) (.slice ia its.length ic) (.slice ra rls.length rc) (.slice A its.length c) (.slice R rls.length d) from
      ⟨hc a0, hc a1, hc a2, hc s0, hc s1, hc s2, fun j hj => by
        have f3 := sf j hj
        have f4 := (q4.frozen (p := ⟨w.heap.size + 1, j, none⟩) hlt3).trans f3
        exact (h45.frozen (p := ⟨w.heap.size + 1, j, none⟩) (Nat.lt_of_lt_of_le hlt3 hsz4)).trans f4, e0, e1, e2, ef, ⟨_, _, by rw [← hw5]; exact heap_alloc_new _ _⟩, by omega, (hB3.trans (q4.mono hB3.size)).trans (h45.mono (by omega))⟩)
    have HIt := hid (show ∀ w'', KB2 w4.heap.size (w.heap.size + 1) w4 w'' → ItemsAt w'' A its by
      intro w'' hk
      obtain ⟨A', c', hv, hi⟩ := hcf.items.items (by have := HV2.out; omega)
      cases hv
      exact hi w'' (fun b off v hb h0 => hk b off v (Nat.ne_of_lt (cell_lt h0)) (by omega) h0))
    have hcr := hcf.rules
    have HR5 := hid (show CurS w4.heap.size (w.heap.size + 1) w5 R rls ∧ rls.length ≤ d from
      ⟨fun w'' hk => (hcr w'' (fun b off v hb hb2 hg h0 => hk b off v (by omega) (by omega) ((h45.cell (p := ⟨b, off, none⟩) (cell_lt h0)).trans h0))).1, (hcr w4 (fun _ _ _ _ _ _ h => h)).2⟩)
    have HK5 := hid (show KB2 w4.heap.size (w.heap.size + 1) w4 w5 from KB2.below h45)
    have HLH := hid (And.intro hlo hhi)
    generalize hq : w4.heap.size = q at *
    clear a0 a1 a2 s0 s1 s2 sf hc e0 e1 ef hcf HB h45 q4 HCP hsz3 hsz4 hsz5 hlt3 hcr hlo hhi hgl hgm hmw hz5
    go_upto_region 6 with (fail)
    clear hw5 e2
    have hlr := HV.out.2.2.1
    have hp10 : p ≤ 10 := by have := HV.out.2.1; omega
    go_loopw [6] (fun i wr => ∃ (k : Nat) (cur : List RuleL) (R : Option Addr) (d : Nat), k ≤ cur.length ∧ i = .int .i64 ((k : Int) - 1) ∧ Hid (redL k cur = redL rls.length rls ∧ rulesE (p : Int) cur = 0 ∧ cur.length ≤ 16) ∧ Hid (RdB w wr q (p : Int) (.slice ia its.length ic) (.slice ra rls.length rc) (.slice A its.length c) (.slice R cur.length d)) ∧ Hid (KB2 q (w.heap.size + 1) w4 wr) ∧ Hid (CurS q (w.heap.size + 1) wr R cur ∧ cur.length ≤ d)) (fun i _ => (intOf i + 1).toNat)
    case atStart => exact ⟨rls.length, rls, R, d, Nat.le_refl _, congrArg (Value.int .i64) (by unfold wrap64; omega), ⟨rfl, HV.out.2.2.2, HV.out.2.2.1⟩, HD.out, HK5.out, HR5.out⟩
    case round =>
      obtain ⟨k, cur, R, d, hk, rfl, HE, HD2, HK2, HR2⟩ := hrel
      clear HD HK5 HR5
      obtain ⟨b0, b1, b2, r0, r1, r2, rf, c0, c1, c2, cf, cq, hq2, bel⟩ := HD2.out
      have hlc := HE.out.2.2
      rcases Nat.eq_zero_or_pos k with rfl | hkp
      · have hneg : ¬ (0 : Int) ≤ ((0 : Nat) : Int) - 1 := by omega
        have f0 := rf 0 (by omega)
        have f1 := rf 1 (by omega)
        have f2 := rf 2 (by omega)
        clear b0 b1 b2 rf cq bel cf
        have hcur : redL rls.length rls = cur := HE.out.1.symm
        have HKf := hid (fun (u0 u1 u2 : Value) => (((KB2.setCell q (w.heap.size + 1) wr ⟨w.heap.size + 1, 0, none⟩ u0 (.inr rfl)).trans (KB2.setCell q (w.heap.size + 1) _ ⟨w.heap.size + 1, 1, none⟩ u1 (.inr rfl))).trans (KB2.setCell q (w.heap.size + 1) _ ⟨w.heap.size + 1, 2, none⟩ u2 (.inr rfl))))
        go_wp2
        refine bodyPost_ret (v := .tuple #[.agg #[.int .i64 (p : Int), .slice A its.length c, .slice R cur.length d], .int .i64 0]) (by simp [results, Try.results37, go_sem, r0, r1, r2]) rfl ⟨((HD2.out.bel.setCell (by show w.heap.size ≤ w.heap.size + 1; omega) _).setCell (by show w.heap.size ≤ w.heap.size + 1; omega) _).setCell (by show w.heap.size ≤ w.heap.size + 1; omega) _, .inr ⟨HV.out.1, A, c, R, d, by rw [hcur], HIt.out _ (HK2.out.trans (HKf.out _ _ _)), by rw [hcur]; exact HR2.out.1 _ (HKf.out _ _ _), HLH.out.1, HLH.out.2⟩⟩
      · obtain ⟨j, rfl⟩ : ∃ j, k = j + 1 := ⟨k - 1, by omega⟩
        have hi : ((j + 1 : Nat) : Int) - 1 = (j : Int) := by omega
        rw [hi]
        have hge : (0 : Int) ≤ (j : Int) := by omega
        clear b0 b1 b2 r0 r1 r2 rf c0 c1 cq bel cf
        have hlw := HD2.out.lt
        obtain ⟨b, off, rfl, hbq, hbz, cl, hcl, hcell⟩ := HR2.out.1.cells (by omega)
        obtain ⟨A1, k1, hA1, run1⟩ := run_toR (some ⟨b, off, none⟩) cur.length d j (by omega) HR2.out.2
        obtain ⟨A2, k2, hA2, run2⟩ := run_fromR (some ⟨b, off, none⟩) cur.length d (j + 1) (by omega) HR2.out.2
        have hcll := hcl.1
        have HN1 := hid (show j = 0 ∨ ∃ ad, A1 = some ad ∧ ∀ i u, (cl.take (j * 2))[i]? = some u → wr.cell? (ad.add i) = some u by
          refine .inr ⟨⟨b, off, none⟩, by rcases hA1 with h | ⟨g, h, h'⟩; exact h; (cases h; rw [h', radd_none]; rfl), fun i u hu => ?_⟩
          rw [radd_none]
          rw [List.getElem?_take] at hu
          split at hu
          · exact hcell i u hu
          · cases hu)
        have HN2 := hid (fun (W : World) (hb : Below wr.heap.size wr W) => show cur.length - (j + 1) = 0 ∨ ∃ ad, A2 = some ad ∧ ∀ i u, (cl.drop ((j + 1) * 2))[i]? = some u → W.cell? (ad.add i) = some u by
          rcases hA2 with h | h
          · exact .inl (by omega)
          · refine .inr ⟨⟨b, off + (j + 1) * 2, none⟩, by rw [h]; simp [radd_none], fun i u hu => ?_⟩
            rw [radd_none]
            rw [List.getElem?_drop] at hu
            have := hcell _ u hu
            rw [← Nat.add_assoc] at this
            exact (hb.cell (p := ⟨b, off + (j + 1) * 2 + i, none⟩) (cell_lt this)).trans this)
        have HCl := hid hcl
        have hl1 : (cl.take (j * 2)).length = j * 2 := by rw [List.length_take]; omega
        have hl2 : (cl.drop ((j + 1) * 2)).length = (cur.length - (j + 1)) * 2 := by rw [List.length_drop]; omega
        have HO1 := hid (fun u (hu : u ∈ cl.take (j * 2)) => hcl.one u (List.mem_of_mem_take hu))
        have HO2 := hid (fun u (hu : u ∈ cl.drop ((j + 1) * 2)) => hcl.one u (List.mem_of_mem_drop hu))
        have HL1 := hid hl1
        have HL2 := hid hl2
        have run2 : ∀ W : World, (Instr.sliceAt 23 (.slice (some ⟨b, off, none⟩) cur.length d) (some (.int .i64 ((j : Int) + 1))) none none).run Try.prog W = .ok (.slice A2 (cur.length - (j + 1)) k2) W := run2
        clear hA1 hA2 hcl hl1 hl2 hcll hcell hi
        have hnil := World.ownsRow_nil wr wr.heap.size 55 2
        go_wp2_with (at_builtin; refine wpList_append_src rfl _ _ 23 rfl wr.heap.size 55 i0 (.agg #[.slice none 0 0, .int .i64 0]) 2 32 Try.underlying23 hinf hi0 hi1 hi2 rfl (by decide) (.slice none 0 0) 0 [] rfl hnil A1 j k1 (cl.take (j * 2)) rfl HL1.out HN1.out HO1.out (by unfold maxLen; omega) (by omega) (Nat.le_refl _) ?_)
        intro v6 w6 hown6 hgrow6
        have p6 : Below wr.heap.size wr w6 := (Below.refl _ _).grown hgrow6 (Nat.le_refl _) (fun x hx => by simp [Value.ownBlock] at hx)
        have hown6 : w6.ownsRow wr.heap.size 55 2 v6 j (cl.take (j * 2)) := by simpa using hown6
        have c26 := (p6.cell (cell_lt c2)).trans c2
        have hs6 := p6.size
        clear hgrow6 hnil c2
        go_wp2_with (at_builtin; refine wpList_append_src rfl _ _ 23 rfl wr.heap.size 55 i0 (.agg #[.slice none 0 0, .int .i64 0]) 2 32 Try.underlying23 hinf hi0 hi1 hi2 rfl (by decide) v6 j (cl.take (j * 2)) rfl hown6 A2 (cur.length - (j + 1)) k2 (cl.drop ((j + 1) * 2)) rfl HL2.out (HN2.out _ p6) HO2.out (by unfold maxLen; omega) (by omega) hs6 ?_)
        intro v9 w9 hown9 hgrow9
        have p9 : Below wr.heap.size wr w9 := p6.grown hgrow9 hs6 (fun x hx => (hown6.lt x hx).1)
        have hel : (cur.eraseIdx j).length = cur.length - 1 := by rw [List.length_eraseIdx, if_pos (by omega)]
        have hjl : j + (cur.length - (j + 1)) = (cur.eraseIdx j).length := by omega
        rw [hjl] at hown9
        have hee := List.eraseIdx_eq_take_drop_succ cur j
        obtain ⟨R2, d2, rfl, hd2⟩ : ∃ R2 d2, v9 = .slice R2 (cur.eraseIdx j).length d2 ∧ (cur.eraseIdx j).length ≤ d2 := by
          rcases hown9.2 with ⟨hv, hn⟩ | ⟨g, c', cur', hv, _, _, hc', _⟩
          · exact ⟨none, 0, by rw [hv, hn], by omega⟩
          · exact ⟨_, c', hv, hc'⟩
        have HO9 := hid (show CurS q (w.heap.size + 1) w9 R2 (cur.eraseIdx j) ∧ (cur.eraseIdx j).length ≤ d2 from
          ⟨CurS.made hown9 (by rw [hee]; exact ((HCl.out.take j).append (HCl.out.drop (j + 1))).keep (KB2.below p9)) hlw (by omega) (by omega), hd2⟩)
        have HD9 := hid (HD2.out.below p9)
        have HK9 := hid (HK2.out.trans (KB2.below p9))
        have HQ9 := hid (show CurS q (w.heap.size + 1) w9 (some ⟨b, off, none⟩) cur ∧ cur.length ≤ d from ⟨HR2.out.1.keep (KB2.below p9), HR2.out.2⟩)
        rcases HQ9.out.1.now.at_ with e | ⟨b', off', e', hcs⟩
        · rw [e] at hk; simp at hk
        cases e'
        obtain ⟨X, xc, x0, x1, hX, _⟩ := hcs j (by omega)
        obtain ⟨rr1, rr2, rr3⟩ := rulesE_ok (p : Int) cur HE.out.2.1 j (by omega)
        have HFB := hid (show redL (j + 1) cur = redL j (if folB (cur.eraseIdx j) (cur[j]?.getD ([], 0)) then cur.eraseIdx j else cur) from rfl)
        have HEr := hid (rulesE_erase HE.out.2.1 j)
        have HLE := hid hel
        have hjl2 : (j : Int) < (cur.length : Int) := by omega
        generalize cur[j]?.getD ([], 0) = rl at *
        obtain ⟨xs, t⟩ := rl
        dsimp only at x0 x1 hX rr1 rr2 rr3
        obtain ⟨t, rfl⟩ := Int.eq_ofNat_of_zero_le rr2
        have hsm := isSetFrom_ge _ _ _ rr1
        have hmp := maskL_ltP hsm
        have ht : t < p := by omega
        have ht0 : (0 : Int) ≤ (t : Int) := by omega
        have ht1 : (t : Int) < (p : Int) := by omega
        have HW := hid (show wrap64 ((j : Int) - 1) = (j : Int) - 1 by unfold wrap64; omega)
        clear hown9 hgrow9 hown6 p6 hee hjl hel hd2 HCl HO1 HO2 HL1 HL2 HN1 HN2 hbq hbz c26 HD2 HK2 HR2 hcs run1 run2 rr1 rr2 rr3 p9
        generalize cur.eraseIdx j = oth at *
        have HM := hid (fun (W : World) (hb : Below w9.heap.size w9 W) => marks_any X xs xc p W (hX.below hb) hsm (by omega))
        have hRP := rulesP_of HEr.out
        have HC := hid (fun (W : World) (hb : Below w9.heap.size w9 W) (A : Option Addr) (c : Nat) (hA : BoolsAt W A p (maskL xs)) => closed_any R2 oth d2 A p (maskL xs) c W (HO9.out.1.now.below hb) hA hp10 hmp (fun r hr => hRP r hr))
        have HKs := hid (fun (w' : World) (hb : Below w9.heap.size w9 w') => (show w'.cell? ⟨w.heap.size, 0, none⟩ = some (.int .i64 (p : Int)) ∧ w'.cell? ⟨q, 2, none⟩ = some (.slice (some ⟨b, off, none⟩) cur.length d) ∧ w'.cell? ⟨b, off + j * 2, none⟩ = some (.slice X xs.length xc) ∧ w'.cell? ⟨b, off + j * 2 + 1, none⟩ = some (.int .i64 (t : Int)) from
          ⟨(hb.cell (cell_lt HD9.out.b0)).trans HD9.out.b0, (hb.cell (cell_lt HD9.out.c2)).trans HD9.out.c2, (hb.cell (cell_lt x0)).trans x0, (hb.cell (cell_lt x1)).trans x1⟩))
        have hr0 : Below w9.heap.size w9 w9 := Below.refl _ _
        clear hX hRP hsm hmp x0 x1 hlc hB3 hB1 hlr v0
        go_wp2
        refine wp_region_held_drew (S := (fun w' => w'.cell? ⟨w.heap.size, 0, none⟩ = some (.int .i64 (p : Int)) ∧ w'.cell? ⟨q, 2, none⟩ = some (.slice (some ⟨b, off, none⟩) cur.length d) ∧ w'.cell? ⟨b, off + j * 2, none⟩ = some (.slice X xs.length xc) ∧ w'.cell? ⟨b, off + j * 2 + 1, none⟩ = some (.int .i64 (t : Int)))) (by kernel_rfl) (HKs.out _ hr0.drew) (fun hHeld => ?_)
        refine take_d (i := 0) (d := some 37) (v := ?_) rfl rfl (by kernel_rfl) (by kernel_rfl) (by kernel_rfl) (fun _ _ _ h => h) (Or.inl ⟨by first | rfl | (simp [*, Region.wanted, yielded]), ?hyp1⟩) (by assumption) ?restp1
        case hyp1 => (intro w hSw; (try dsimp only at hSw); go_simp <;> with_reducible rfl)
        try simp only [Act.put, List.setIfInBounds_toArray, List.set_cons_zero, List.set_cons_succ]
        refine take_d (i := 1) (d := some 38) (v := ?_) rfl rfl (by kernel_rfl) (by kernel_rfl) (by kernel_rfl) (fun _ _ _ h => h) (Or.inl ⟨by first | rfl | (simp [*, Region.wanted, yielded]), ?hyp2⟩) (by assumption) ?restp2
        case hyp2 => (intro w hSw; (try dsimp only at hSw); go_simp <;> with_reducible rfl)
        try simp only [Act.put, List.setIfInBounds_toArray, List.set_cons_zero, List.set_cons_succ]
        refine take_d (i := 2) (d := some 39) (v := ?_) rfl rfl (by kernel_rfl) (by kernel_rfl) (by kernel_rfl) (fun _ _ _ h => h) (Or.inl ⟨by first | rfl | (simp [*, Region.wanted, yielded]), ?hyp3⟩) (by assumption) ?restp3
        case hyp3 => (intro w hSw; (try dsimp only at hSw); go_simp <;> with_reducible rfl)
        try simp only [Act.put, List.setIfInBounds_toArray, List.set_cons_zero, List.set_cons_succ]
        refine take_d (i := 3) (d := some 40) (v := ?_) rfl rfl (by kernel_rfl) (by kernel_rfl) (by kernel_rfl) (fun _ _ _ h => h) (Or.inl ⟨by first | rfl | (simp [*, Region.wanted, yielded]), ?hyp4⟩) (by assumption) ?restp4
        case hyp4 => (intro w hSw; (try dsimp only at hSw); go_simp <;> with_reducible rfl)
        try simp only [Act.put, List.setIfInBounds_toArray, List.set_cons_zero, List.set_cons_succ]
        refine take_d (i := 4) (d := some 41) (v := ?_) rfl rfl (by kernel_rfl) (by kernel_rfl) (by kernel_rfl) (fun _ _ _ h => h) (Or.inl ⟨by first | rfl | (simp [*, Region.wanted, yielded]), ?hyp5⟩) (by assumption) ?restp5
        case hyp5 => (intro w hSw; (try dsimp only at hSw); go_simp <;> with_reducible rfl)
        try simp only [Act.put, List.setIfInBounds_toArray, List.set_cons_zero, List.set_cons_succ]
        refine take_d (i := 5) (d := some 42) (v := ?_) rfl rfl (by kernel_rfl) (by kernel_rfl) (by kernel_rfl) (fun _ _ _ h => h) (Or.inl ⟨by first | rfl | (simp [*, Region.wanted, yielded]), ?hyp6⟩) (by assumption) ?restp6
        case hyp6 => (intro w hSw; (try dsimp only at hSw); go_simp <;> with_reducible rfl)
        try simp only [Act.put, List.setIfInBounds_toArray, List.set_cons_zero, List.set_cons_succ]
        refine take_d (i := 6) (d := some 43) (v := ?_) rfl rfl (by kernel_rfl) (by kernel_rfl) (by kernel_rfl) (fun _ _ _ h => h) (Or.inl ⟨by first | rfl | (simp [*, Region.wanted, yielded]), ?hyp7⟩) (by assumption) ?restp7
        case hyp7 => (intro w hSw; (try dsimp only at hSw); go_simp <;> with_reducible rfl)
        try simp only [Act.put, List.setIfInBounds_toArray, List.set_cons_zero, List.set_cons_succ]
        refine take_d (i := 7) (d := some 44) (v := ?_) rfl rfl (by kernel_rfl) (by kernel_rfl) (by kernel_rfl) (fun _ _ _ h => h) (Or.inl ⟨by first | rfl | (simp [*, Region.wanted, yielded]), ?hyp8⟩) (by assumption) ?restp8
        case hyp8 => (intro w hSw; (try dsimp only at hSw); go_simp <;> with_reducible rfl)
        try simp only [Act.put, List.setIfInBounds_toArray, List.set_cons_zero, List.set_cons_succ]
        refine take_d (i := 8) (d := some 45) (v := ?_) rfl rfl (by kernel_rfl) (by kernel_rfl) (by kernel_rfl) (fun _ _ _ h => h) (Or.inl ⟨by first | rfl | (simp [*, Region.wanted, yielded]), ?hyp9⟩) (by assumption) ?restp9
        case hyp9 => (intro w hSw; (try dsimp only at hSw); go_simp <;> with_reducible rfl)
        try simp only [Act.put, List.setIfInBounds_toArray, List.set_cons_zero, List.set_cons_succ]
        refine take_d (i := 11) (d := some 48) (v := ?_) rfl rfl (by kernel_rfl) (by kernel_rfl) (by kernel_rfl) (fun _ _ _ h => h) (Or.inl ⟨by first | rfl | (simp [*, Region.wanted, yielded]), ?hyp10⟩) (by assumption) ?restp10
        case hyp10 => (intro w hSw; (try dsimp only at hSw); go_simp <;> with_reducible rfl)
        try simp only [Act.put, List.setIfInBounds_toArray, List.set_cons_zero, List.set_cons_succ]
        refine take_d (i := 12) (d := some 49) (v := ?_) rfl rfl (by kernel_rfl) (by kernel_rfl) (by kernel_rfl) (fun _ _ _ h => h) (Or.inl ⟨by first | rfl | (simp [*, Region.wanted, yielded]), ?hyp11⟩) (by assumption) ?restp11
        case hyp11 => (intro w hSw; (try dsimp only at hSw); go_simp <;> with_reducible rfl)
        try simp only [Act.put, List.setIfInBounds_toArray, List.set_cons_zero, List.set_cons_succ]
        refine take_d (i := 13) (d := some 50) (v := ?_) rfl rfl (by kernel_rfl) (by kernel_rfl) (by kernel_rfl) (fun _ _ _ h => h) (Or.inl ⟨by first | rfl | (simp [*, Region.wanted, yielded]), ?hyp12⟩) (by assumption) ?restp12
        case hyp12 => (intro w hSw; (try dsimp only at hSw); go_simp <;> with_reducible rfl)
        try simp only [Act.put, List.setIfInBounds_toArray, List.set_cons_zero, List.set_cons_succ]
        refine take_d (i := 14) (d := some 51) (v := ?_) rfl rfl (by kernel_rfl) (by kernel_rfl) (by kernel_rfl) (fun _ _ _ h => h) (Or.inl ⟨by first | rfl | (simp [*, Region.wanted, yielded]), ?hyp13⟩) (by assumption) ?restp13
        case hyp13 => (intro w hSw; (try dsimp only at hSw); go_simp <;> with_reducible rfl)
        try simp only [Act.put, List.setIfInBounds_toArray, List.set_cons_zero, List.set_cons_succ]
        refine take_d (i := 15) (d := some 52) (v := ?_) rfl rfl (by kernel_rfl) (by kernel_rfl) (by kernel_rfl) (fun _ _ _ h => h) (Or.inl ⟨by first | rfl | (simp [*, Region.wanted, yielded]), ?hyp14⟩) (by assumption) ?restp14
        case hyp14 => (intro w hSw; (try dsimp only at hSw); go_simp <;> with_reducible rfl)
        try simp only [Act.put, List.setIfInBounds_toArray, List.set_cons_zero, List.set_cons_succ]
        refine take_d (i := 16) (d := some 53) (v := ?_) rfl rfl (by kernel_rfl) (by kernel_rfl) (by kernel_rfl) (fun _ _ _ h => h) (Or.inl ⟨by first | rfl | (simp [*, Region.wanted, yielded]), ?hyp15⟩) (by assumption) ?restp15
        case hyp15 => (intro w hSw; (try dsimp only at hSw); go_simp <;> with_reducible rfl)
        try simp only [Act.put, List.setIfInBounds_toArray, List.set_cons_zero, List.set_cons_succ]
        refine wpAnyH_ready (rs := [9]) (by kernel_rfl) (by simp) ?_
        refine AllReadyH.cons (o := _) rfl (fun K hK => ?_) AllReadyH.nil
        go_simp
        refine (HM.out _ hr0.drew).mono ?_
        rintro e4 w4' ⟨hb4, g4, c4, rfl, hB4⟩
        have p4 : Below w9.heap.size w9 w4' := hr0.drew.trans hb4
        go_wp2_with fail
        refine hK.out _ _ (HKs.out _ p4) (fun hHeld => ?_)
        clear hK K
        try simp only [Act.put, List.setIfInBounds_toArray, List.set_cons_zero, List.set_cons_succ]
        refine wpAnyH_ready (rs := [10]) (by kernel_rfl) (by simp) ?_
        refine AllReadyH.cons (o := _) rfl (fun K hK => ?_) AllReadyH.nil
        go_simp
        refine (HC.out _ p4 _ _ (hB4.at_ (by omega))).mono ?_
        rintro e5 w5' ⟨hb5, A5, c5, rfl, hB5, _⟩
        have p5 : Below w9.heap.size w9 w5' := p4.trans (hb5.mono p4.size)
        rcases hB5.at_ with e | ⟨b5, o5, rfl, hc5⟩
        · exfalso; omega
        have l5 := hc5 t ht
        clear hc5 hB5
        go_wp2_with fail
        refine hK.out _ _ (HKs.out _ p5) (fun hHeld => ?_)
        clear hK K
        try simp only [Act.put, List.setIfInBounds_toArray, List.set_cons_zero, List.set_cons_succ]
        refine take_d (i := 17) (d := some 54) (v := ?_) rfl rfl (by kernel_rfl) (by kernel_rfl) (by kernel_rfl) (fun _ _ _ h => h) (Or.inl ⟨by first | rfl | (simp [*, Region.wanted, yielded]), ?hyp16⟩) (by assumption) ?restp16
        case hyp16 => (intro w hSw; (try dsimp only at hSw); go_simp <;> with_reducible rfl)
        try simp only [Act.put, List.setIfInBounds_toArray, List.set_cons_zero, List.set_cons_succ]
        refine wpAnyH_ready (rs := [18]) (by kernel_rfl) (by simp) ?_
        refine AllReadyH.cons (o := _) rfl (fun K hK => ?_) AllReadyH.nil
        go_simp
        go_wp2_with fail
        refine hK.out _ _ (HKs.out _ p5) (fun hHeld => ?_)
        clear hK K
        try simp only [Act.put, List.setIfInBounds_toArray, List.set_cons_zero, List.set_cons_succ]
        refine wpAnyH_done (by kernel_rfl) ?_ _
        go_simp
        have HD5 := hid (HD9.out.below p5)
        have HK5 := hid (HK9.out.trans (KB2.below p5))
        have HO5 := hid (HO9.out.1.keep (KB2.below p5))
        have HQ5 := hid (HQ9.out.1.keep (KB2.below p5))
        have c25 := HD5.out.c2
        have f25 := HD5.out.cf
        clear p4 p5 hb4 hB4 hb5 HD9 HK9 HKs HM HC hr0
        cases hcl : (closL oth (maskL xs)).testBit t with
        | true =>
          have HFc := hid (show folB oth (xs, (t : Int)) = true from hcl)
          clear hcl
          go_wp2
          go_roundw
          case rel =>
            have hlo := HLE.out
            exact ⟨j, oth, R2, d2, by omega, congrArg (Value.int .i64) HW.out, ⟨by rw [← HE.out.1, HFB.out, if_pos HFc.out], HEr.out, by have := HE.out.2.2; omega⟩, HD5.out.put2 _, HK5.out.trans (KB2.setCell _ _ _ _ _ (.inl rfl)), ⟨HO5.out.keep (KB2.setCell _ _ _ _ _ (.inl rfl)), HO9.out.2⟩⟩
          case measure => simp [intOf, HW.out]
        | false =>
          have HFc := hid (show ¬ folB oth (xs, (t : Int)) = true by rw [show folB oth (xs, (t : Int)) = false from hcl]; decide)
          clear hcl
          go_wp2
          go_roundw
          case rel =>
            exact ⟨j, cur, _, d, by omega, congrArg (Value.int .i64) HW.out, ⟨by rw [← HE.out.1, HFB.out, if_neg HFc.out], HE.out.2.1, HE.out.2.2⟩, HD5.out, HK5.out, ⟨HQ5.out, HQ9.out.2⟩⟩
          case measure => simp [intOf, HW.out]
  · have f0 := sf 0 (by omega)
    have f1 := sf 1 (by omega)
    have f2 := sf 2 (by omega)
    have HZ := hid hz
    have HBz := hid hB3
    clear sf HB hB3 hB1 q3 a0 a1 a2
    generalize hev : validB P its rls = e at *
    have HEV := hid hev
    clear hev
    go_wp2
    refine bodyPost_ret (v := .tuple #[.agg #[.int .i64 0, .slice none 0 0, .slice none 0 0], .int .i64 e]) (by simp [results, Try.results37, go_sem, s0, s1, s2]) rfl ⟨((HBz.out.setCell (by show w.heap.size ≤ w.heap.size + 1; omega) _).setCell (by show w.heap.size ≤ w.heap.size + 1; omega) _).setCell (by show w.heap.size ≤ w.heap.size + 1; omega) _, .inl ⟨by rw [HEV.out]; exact HZ.out, by rw [HEV.out]⟩⟩
end Go.Proofs.Ytdgleicpcjfnoaa
