/- Shortest of the document (written by gen_shortr.py). -/
import Derived.Test.YtdgleicpcjfnoaaShortP
import Derived.Test.YtdgleicpcjfnoaaWithin
import Derived.Test.YtdgleicpcjfnoaaRBase
set_option linter.unusedVariables false
set_option linter.unusedSimpArgs false
namespace Go.Proofs.Ytdgleicpcjfnoaa
open Go.RowKit

theorem OwnB.setF {w : World} {base g n M c : Nat} (h : OwnB w base g n M c) (x : Nat) (hx : M.testBit x = false) : OwnB (w.setCell ⟨g, x, none⟩ (.bool false)) base g n M c := by
  unfold OwnB
  have e : (bcells M n).set x (.bool false) = bcells M n := by
    refine List.ext_getElem? fun i => ?_
    rw [List.getElem?_set]
    split
    · rename_i e
      subst e
      split
      · rename_i hl
        rw [bcells_len] at hl
        rw [bcells_at M n x hl, hx]
      · rename_i hl
        rw [List.getElem?_eq_none (by omega)]
    · rfl
  rw [← e]
  exact (h.stored x _).1
def selTo (O : Nat) (xs : List Int) (j : Nat) : Nat := maskL ((xs.take j).filter (fun x => O.testBit x.toNat))
theorem sel_succ (O : Nat) (xs : List Int) (j : Nat) (h : j < xs.length) : selTo O xs (j + 1) = if O.testBit (xs[j]?.getD 0).toNat then selTo O xs j ||| 2 ^ (xs[j]?.getD 0).toNat else selTo O xs j := by
  unfold selTo
  rw [List.take_succ_eq_append_getElem h, List.filter_append, List.getElem?_eq_getElem h]
  simp only [Option.getD_some]
  by_cases hb : O.testBit xs[j].toNat = true
  · rw [if_pos hb, show [xs[j]].filter (fun x => O.testBit x.toNat) = [xs[j]] by simp [hb]]
    unfold maskL
    rw [maskFrom_snoc]
  · rw [if_neg hb, show [xs[j]].filter (fun x => O.testBit x.toNat) = [] by simp [hb], List.append_nil]
theorem sel_full (O k : Nat) (hk : k < 2 ^ 64) : selTo O (bitsTo k 64) (bitsTo k 64).length = O &&& k := by
  unfold selTo
  rw [List.take_length]
  apply Nat.eq_of_testBit_eq
  intro i
  rw [testBit_maskL, Nat.testBit_and, Bool.eq_iff_iff, decide_eq_true_iff, Bool.and_eq_true]
  constructor
  · rintro ⟨x, hx, rfl⟩
    obtain ⟨h1, h2⟩ := List.mem_filter.1 hx
    obtain ⟨q, rfl, _, h3⟩ := (mem_bitsTo _ _ x).1 h1
    rw [Int.toNat_natCast] at h2 ⊢
    exact ⟨h2, h3⟩
  · rintro ⟨h1, h2⟩
    exact ⟨(i : Int), List.mem_filter.2 ⟨(mem_bitsTo _ _ _).2 ⟨i, rfl, bit_lt hk h2, h2⟩, by simpa using h1⟩, by simp⟩
theorem sel_fresh (O k j : Nat) (h : j < (bitsTo k 64).length) : (selTo O (bitsTo k 64) j).testBit ((bitsTo k 64)[j]?.getD 0).toNat = false := by
  unfold selTo
  rw [testBit_maskL, decide_eq_false_iff_not]
  rintro ⟨x, hx, e⟩
  have h1 := (List.mem_filter.1 hx).1
  obtain ⟨i, hi, rfl⟩ := List.getElem_of_mem h1
  rw [List.length_take] at hi
  rw [List.getElem_take] at e
  have hs := List.pairwise_iff_getElem.1 (bitsTo_sorted k 64) i j (by omega) h (by omega)
  rw [List.getElem?_eq_getElem h] at e
  obtain ⟨p, hp, _⟩ := (mem_bitsTo _ _ _).1 (List.getElem_mem (l := bitsTo k 64) (n := i) (by omega))
  obtain ⟨q, hq, _⟩ := (mem_bitsTo _ _ _).1 (List.getElem_mem h)
  simp only [Option.getD_some] at e
  omega

set_option maxRecDepth 100000 in
set_option maxHeartbeats 8000000 in
theorem rshortest_any (P : Int) (ia : Option Addr) (its : List ItemL) (ic : Nat) (ra : Option Addr) (rls : List RuleL) (rc : Nat) (item prop : Int) (w : World) (h : BookAt w P ia its ra rls) :
  Calls Try.prog 33 #[.agg #[.int .i64 P, .slice ia its.length ic, .slice ra rls.length rc], .int .i64 item, .int .i64 prop] w (ShortR w P its rls item prop) := by
  have S0 := ValS.made w P (.slice ia its.length ic) (.slice ra rls.length rc)
  have HC := hid (asked_any P ia its ic ra rls rc item prop _ (h.below S0.below))
  have HS0 := hid S0
  clear S0
  by_cases h0 : propE P its rls item prop = 0
  · obtain ⟨hv, ⟨hi0, hi1⟩, hp0, hp1⟩ := propE_ok h0
    obtain ⟨v0, v1, v2, v3, v4, v5⟩ := validB_ok hv
    have HX0 := hid (fun (m : Nat) => show m = bestTo (selfD rls (propsL (ownL its item.toNat))) prop.toNat (2 ^ P.toNat) → shortA P its rls item prop m (decide (0 < m)) 0 from fun hm => by unfold shortA; rw [if_neg (by simp [h0])]; exact ⟨rfl, hm, rfl⟩)
    rw [h0] at HC
    obtain ⟨n, rfl⟩ := Int.eq_ofNat_of_zero_le hi0
    obtain ⟨m, rfl⟩ := Int.eq_ofNat_of_zero_le hp0
    obtain ⟨p, rfl⟩ := Int.eq_ofNat_of_zero_le v0
    have hn : n < its.length := by omega
    have hm : m < p := by omega
    have hp10 : p ≤ 10 := by omega
    have HX := hid (fun (k : Nat) => show k = bestTo (selfD rls (propsL (ownL its n))) m (2 ^ p) → shortA (p : Int) its rls (n : Int) (m : Int) k (decide (0 < k)) 0 from fun h => HX0.out k h)
    have hRP := rulesP_of v5
    have hb := contL_bits (p : Int) its v4 n hn
    have hON := own_lt v4 n hb (by omega)
    have HBs := hid (fun (w' : World) (hb : Below w.heap.size w w') => base_any p ia its ic (.slice ra rls.length rc) n w' (h.below hb).items hp10 v2 hn v4)
    have HWi := hid (fun (k : Nat) (ka : Option Addr) (kc : Nat) (w' : World) (hb : Below w.heap.size w w') (hk : BoolsAt w' ka p k) => withinR_any ra rls rc ka p k kc w' (h.below hb).rules hk hp10 hRP (by omega))
    have HCl := hid (fun (k : Nat) (hk : k < 2 ^ p) (A : Option Addr) (c : Nat) (B : Option Addr) (d : Nat) (w' : World) (hr : RulesAt w' A (withinL rls k)) (hB : BoolsAt w' B p (propsL (ownL its n) &&& k)) => closed_any A (withinL rls k) c B p (propsL (ownL its n) &&& k) d w' hr hB hp10 (Nat.lt_of_le_of_lt Nat.and_le_right hk) (fun r hr => hRP r (mem_withinL.1 hr).1))
    have HPB := hid (show ∀ k x : Nat, k < 2 ^ p → k.testBit x = true → x < p from fun k x hk hx => bit_lt hk hx)
    have hN2 : 2 ^ p ≤ 1024 := Nat.pow_le_pow_right (n := 2) (by omega) hp10
    have HSh := hid (shl_P p hp10)
    have HMk := hid (make_bools p (by omega))
    have HRa := hid (fun w' (hb : Below w.heap.size w w') => (h.below hb).rules)
    clear h hv v4 v5 h0 hi0 hp0 HX0 hi1 hp1 hRP hb
    generalize propsL (ownL its n) = O at *
    generalize hN : 2 ^ p = N at *
    clear hN
    go_enter Try.func33, Try.ntmps33
    go_wp2_with fail
    refine HC.out.mono ?_
    rintro e w1 ⟨q1, rfl⟩
    have HS1 := hid (HS0.out.keep q1)
    obtain ⟨a0, a1, a2, _⟩ := id HS1.out
    clear q1 HC HS0
    go_wp2_with fail
    refine (HBs.out _ HS1.out.below).mono ?_
    rintro e w2 ⟨q2, Ah, ch, rfl, hB, _⟩
    have HS2 := hid (HS1.out.keep q2)
    obtain ⟨bh, oh, rfl⟩ : ∃ b o, Ah = some ⟨b, o, none⟩ := by
      rcases hB.at_ with e | ⟨b, o, e, _⟩
      · omega
      · exact ⟨b, o, e⟩
    have HHas := hid (fun w' (hb : Below w2.heap.size w2 w') => hB.below hb)
    clear q2 HBs HS1 hB a0 a1 a2
    go_wp2
    go_loopw [11, 12] (fun l i wr => ∃ k : Nat, k ≤ N ∧ i = .int .i64 k ∧ l = .int .i64 (bestTo (selfD rls O) m k) ∧ Hid (Below w2.heap.size w2 wr)) (fun _ i _ => N - (intOf i).toNat)
    case atStart => exact ⟨0, Nat.zero_le _, rfl, rfl, Below.refl _ _⟩
    case round =>
      obtain ⟨k, hk, rfl, rfl, HB⟩ := hrel
      have HSr := hid (HS2.out.keep HB.out)
      have a0 := HSr.out.1
      have a2 := HSr.out.2.2.1
      have hsh := HSh.out
      by_cases hlt : k < N
      · have hbd := bestTo_bd (selfD rls O) m k
        have HNo := hid (@best_no (selfD rls O) m k)
        have HYes := hid (@best_yes (selfD rls O) m k)
        have hcb := cntBits_le k 10
        have HSd := hid (show selfD rls O k = allM (closL (withinL rls k) (O &&& k)) (bitsTo k 64) from rfl)
        have hk0 : (0 : Int) ≤ (k : Int) := by omega
        have hk1 : (k : Int) < (N : Int) := by omega
        have HWk := hid (fun ka kc w' hb hk => HWi.out k ka kc w' hb hk)
        have HCk := hid (HCl.out k hlt)
        have HCnt := hid (bitsTo_cnt64 (M := k) (by omega))
        have HMb := hid (maskL_bitsTo k 64 (by omega))
        have HSm := hid (show ∀ x ∈ bitsTo k 64, 0 ≤ x ∧ x < (p : Int) from fun x hx => by
          obtain ⟨q, rfl, _, h2⟩ := (mem_bitsTo _ _ x).1 hx
          have := HPB.out k q hlt h2
          omega)
        have HFu := hid (sel_full O k (by omega))
        have HFr := hid (sel_fresh O k)
        have HSc := hid (sel_succ O (bitsTo k 64))
        have HBi := hid (fun w' => bitsR_any k w' (by omega))
        have HCp := hid (show k.testBit m = true → 0 < cntBits k 10 from fun h => cnt_pos (by omega) h)
        generalize hxs : bitsTo k 64 = xs at *
        clear hxs
        have hxl : xs.length ≤ 10 := by rw [HCnt.out]; exact hcb
        generalize bestTo (selfD rls O) m k = B at *
        generalize cntBits k 10 = C at *
        go_wp2_with fail
        refine (HBi.out _).mono ?_
        rintro e w3 ⟨q3, A4, c4, rfl, own3⟩
        obtain ⟨_, _, hv3, i3⟩ := own3.ints (by omega) (fun x hx => by have := HSm.out x hx; omega)
        cases hv3
        have HI3 := hid (fun w' (hb : Below w3.heap.size w3 w') => i3.below hb)
        have HB3 := hid (HB.out.trans (q3.mono HB.out.size))
        have HS3 := hid (HS2.out.keep HB3.out)
        have a0 := HS3.out.1
        clear q3 own3 i3
        go_wp2_with fail
        refine (marks_any A4 xs c4 p _ (HI3.out _ (Below.refl _ _)) HSm.out (by omega)).mono ?_
        rintro e w4 ⟨q4, g4, d4, rfl, own4⟩
        rw [HMb.out] at own4
        have HK4 := hid (fun w' (hb : Below w4.heap.size w4 w') => (own4.at_ (by omega)).below hb)
        have c4m := (by have h4 := own4; unfold OwnB at h4; rw [h4.cellAt _ (by omega), bcells_at k p m hm] : w4.cell? ⟨g4, m, none⟩ = some (.bool (k.testBit m)))
        have HI4 := hid (fun w' (hb : Below w4.heap.size w4 w') => HI3.out w' (q4.trans (hb.mono q4.size)))
        have HB4 := hid (HB3.out.trans (q4.mono HB3.out.size))
        have HS4 := hid (HS2.out.keep HB4.out)
        have a0 := HS4.out.1
        have hm0 : (0 : Int) ≤ (m : Int) := by omega
        have hmp : (m : Int) < (p : Int) := by omega
        clear q4 own4 HI3 HS3 HB3
        cases hb : k.testBit m with
        | false =>
          have HE := hid (HNo.out (.inl (by rw [hb, Bool.and_false])))
          rw [hb] at c4m
          clear hb HNo HYes
          go_wp2
          go_roundw
          case rel => exact ⟨k + 1, by omega, by go_num, by rw [HE.out], HB4.out⟩
          case measure => simp [intOf]; omega
        | true =>
          rw [hb] at c4m
          have hC0 := HCp.out hb
          by_cases hsk : 0 < B ∧ B ≤ C
          · have HE := hid (HNo.out (.inr hsk))
            have hB1 : (0 : Int) < (B : Int) := by omega
            have hB2 : (B : Int) ≤ (C : Int) := by omega
            have hB3 : (B : Int) ≤ (xs.length : Int) := by rw [HCnt.out]; exact hB2
            have hB4 : B ≤ xs.length := by omega
            have hB5 : 0 < B := hsk.1
            clear hb HNo HYes hsk hB1 hB2 hB3
            go_wp2
            go_roundw
            case rel => exact ⟨k + 1, by omega, by go_num, by rw [HE.out], HB4.out⟩
            case measure => simp [intOf]; omega
          · have HE1 := hid (fun (h : selfD rls O k = true) => HYes.out (by rw [hb, h]; rfl) (by omega))
            have HE0 := hid (fun (h : selfD rls O k = false) => HNo.out (.inl (by rw [h]; rfl)))
            have HCx := hid (show xs.length = C from HCnt.out)
            have HOm := hid (own_made w4 p w4.heap.size (by omega) (Nat.le_refl _))
            have hmk := HMk.out
            have HB0 : Hid (B = 0 ∨ C < B) := hid (by omega)
            clear hb HNo HYes hsk hsh
            have HGo : B = 0 ∨ (0 < B ∧ xs.length < B) := by have := HB0.out; have := HCx.out; omega
            rcases HGo with hBz | ⟨hBp, hBl⟩
            · try subst hBz
              try (have hb2 : ¬ B ≤ xs.length := by omega)
              go_wp2
              clear hmk c4m
              obtain ⟨wz, hwz⟩ : ∃ wz : World, wz = wr := ⟨_, rfl⟩
              clear hwz
              go_loopw [16] (fun i wq => ∃ j : Nat, j ≤ xs.length ∧ i = .int .i64 j ∧ Hid (OwnB wq w4.heap.size w4.heap.size p (selTo O xs j) p) ∧ Hid (Below w4.heap.size w4 wq)) (fun i _ => xs.length - (intOf i).toNat)
              case atStart => exact ⟨0, Nat.zero_le _, rfl, HOm.out, (Below.refl _ _).alloc (Nat.le_refl _) _⟩
              case round =>
                obtain ⟨j, hj, rfl, HOj, HBj⟩ := hrel
                by_cases hjl : j < xs.length
                · rcases (HI4.out w4 (Below.refl _ _)).at_ with e | ⟨b4, o4, rfl, hc4⟩
                  · rw [e] at hjl; simp at hjl
                  have c4w := hc4 j hjl
                  have hxm := HSm.out _ (getD_mem xs j hjl)
                  have HSj := hid (HSc.out j hjl)
                  have HFj := hid (HFr.out j hjl)
                  clear hc4
                  generalize xs[j]?.getD 0 = xi at *
                  obtain ⟨x, rfl⟩ := Int.eq_ofNat_of_zero_le hxm.1
                  rw [Int.toNat_natCast] at HSj HFj
                  have hxp : x < p := by omega
                  rcases (HHas.out w4 HB4.out).at_ with e | ⟨bh', oh', eh, hch⟩
                  · omega
                  cases eh
                  have h4w := hch x hxp
                  clear hch
                  have hb4 := cell_lt c4w
                  have hbh := cell_lt h4w
                  dsimp only at hb4 hbh
                  have c4' := (HBj.out.cell (cell_lt c4w)).trans c4w
                  have h4' := (HBj.out.cell (cell_lt h4w)).trans h4w
                  have hown := HOj.out
                  have d1 : wr.cell? ⟨w4.heap.size, x, none⟩ = some (.bool ((selTo O xs j).testBit x)) := by
                    unfold OwnB at hown
                    rw [hown.cellAt _ (by omega), bcells_at _ p x hxp]
                  have f1 : wr.frozen? ⟨w4.heap.size, x, none⟩ = false := by unfold OwnB at hown; exact hown.frozenAt x
                  have HKs := hid (fun (u : Value) => (show (wr.drew.setCell ⟨w4.heap.size, x, none⟩ u).cell? ⟨b4, o4 + j, none⟩ = some (.int .i64 (x : Int)) ∧ (wr.drew.setCell ⟨w4.heap.size, x, none⟩ u).cell? ⟨bh, oh + x, none⟩ = some (.bool (O.testBit x)) from
                    ⟨by rw [World.cell?_setCell_far _ _ _ _ (by dsimp only; omega)]; exact c4', by rw [World.cell?_setCell_far _ _ _ _ (by dsimp only; omega)]; exact h4'⟩))
                  have HO5 := hid (show OwnB (wr.drew.setCell ⟨w4.heap.size, x, none⟩ (.bool (O.testBit x))) w4.heap.size w4.heap.size p (selTo O xs (j + 1)) p from by
                    have hd : OwnB wr.drew w4.heap.size w4.heap.size p (selTo O xs j) p := hown.below (Below.refl _ _).drew
                    rw [HSj.out]
                    cases hob : O.testBit x with
                    | true => rw [if_pos rfl]; exact hd.set x
                    | false => rw [if_neg (by simp)]; exact hd.setF x HFj.out)
                  have HB5 := hid (show Below w4.heap.size w4 (wr.drew.setCell ⟨w4.heap.size, x, none⟩ (.bool (O.testBit x))) from (HBj.out.drew).setCell (Nat.le_refl _) _)
                  generalize O.testBit x = ob at *
                  have hj0 : (0 : Int) ≤ (j : Int) := by omega
                  have hj1 : (j : Int) < (xs.length : Int) := by omega
                  have hx0 : (0 : Int) ≤ (x : Int) := by omega
                  have hx1 : (x : Int) < (p : Int) := by omega
                  clear hown hxm
                  go_wp2
                  refine wp_region_held_drew (S := (fun w' => w'.cell? ⟨b4, o4 + j, none⟩ = some (.int .i64 (x : Int)) ∧ w'.cell? ⟨bh, oh + x, none⟩ = some (.bool ob))) (by kernel_rfl) ⟨c4', h4'⟩ (fun hHeld => ?_)
                  refine take_d (i := 0) (d := some 64) (v := ?_) rfl rfl (by kernel_rfl) (by kernel_rfl) (by kernel_rfl) (fun _ _ _ h => h) (Or.inl ⟨by first | rfl | (simp [*, Region.wanted, yielded]), ?hyr1⟩) (by assumption) ?restr1
                  case hyr1 => (intro w hSw; (try dsimp only at hSw); go_simp <;> with_reducible rfl)
                  try simp only [Act.put, List.setIfInBounds_toArray, List.set_cons_zero, List.set_cons_succ]
                  refine take_d (i := 1) (d := some 65) (v := ?_) rfl rfl (by kernel_rfl) (by kernel_rfl) (by kernel_rfl) (fun _ _ _ h => h) (Or.inl ⟨by first | rfl | (simp [*, Region.wanted, yielded]), ?hyr2⟩) (by assumption) ?restr2
                  case hyr2 => (intro w hSw; (try dsimp only at hSw); go_simp <;> with_reducible rfl)
                  try simp only [Act.put, List.setIfInBounds_toArray, List.set_cons_zero, List.set_cons_succ]
                  refine take_d (i := 2) (d := some 66) (v := ?_) rfl rfl (by kernel_rfl) (by kernel_rfl) (by kernel_rfl) (fun _ _ _ h => h) (Or.inl ⟨by first | rfl | (simp [*, Region.wanted, yielded]), ?hyr3⟩) (by assumption) ?restr3
                  case hyr3 => (intro w hSw; (try dsimp only at hSw); go_simp <;> with_reducible rfl)
                  try simp only [Act.put, List.setIfInBounds_toArray, List.set_cons_zero, List.set_cons_succ]
                  refine take_d (i := 3) (d := some 67) (v := ?_) rfl rfl (by kernel_rfl) (by kernel_rfl) (by kernel_rfl) (fun _ _ _ h => h) (Or.inl ⟨by first | rfl | (simp [*, Region.wanted, yielded]), ?hyr4⟩) (by assumption) ?restr4
                  case hyr4 => (intro w hSw; (try dsimp only at hSw); go_simp <;> with_reducible rfl)
                  try simp only [Act.put, List.setIfInBounds_toArray, List.set_cons_zero, List.set_cons_succ]
                  refine take_d (i := 4) (d := some 68) (v := ?_) rfl rfl (by kernel_rfl) (by kernel_rfl) (by kernel_rfl) (fun _ _ _ h => h) (Or.inl ⟨by first | rfl | (simp [*, Region.wanted, yielded]), ?hyr5⟩) (by assumption) ?restr5
                  case hyr5 => (intro w hSw; (try dsimp only at hSw); go_simp <;> with_reducible rfl)
                  try simp only [Act.put, List.setIfInBounds_toArray, List.set_cons_zero, List.set_cons_succ]
                  refine take_d (i := 5) (d := some 69) (v := ?_) rfl rfl (by kernel_rfl) (by kernel_rfl) (by kernel_rfl) (fun _ _ _ h => h) (Or.inl ⟨by first | rfl | (simp [*, Region.wanted, yielded]), ?hyr6⟩) (by assumption) ?restr6
                  case hyr6 => (intro w hSw; (try dsimp only at hSw); go_simp <;> with_reducible rfl)
                  try simp only [Act.put, List.setIfInBounds_toArray, List.set_cons_zero, List.set_cons_succ]
                  refine take_d (i := 6) (d := some 70) (v := ?_) rfl rfl (by kernel_rfl) (by kernel_rfl) (by kernel_rfl) (fun _ _ _ h => h) (Or.inl ⟨by first | rfl | (simp [*, Region.wanted, yielded]), ?hyr7⟩) (by assumption) ?restr7
                  case hyr7 => (intro w hSw; (try dsimp only at hSw); go_simp <;> with_reducible rfl)
                  try simp only [Act.put, List.setIfInBounds_toArray, List.set_cons_zero, List.set_cons_succ]
                  refine take_d (i := 7) (d := some 71) (v := ?_) rfl rfl (by kernel_rfl) (by kernel_rfl) (by kernel_rfl) (fun _ _ _ h => h) (Or.inl ⟨by first | rfl | (simp [*, Region.wanted, yielded]), ?hyr8⟩) (by assumption) ?restr8
                  case hyr8 => (intro w hSw; (try dsimp only at hSw); go_simp <;> with_reducible rfl)
                  try simp only [Act.put, List.setIfInBounds_toArray, List.set_cons_zero, List.set_cons_succ]
                  refine take_d (i := 8) (d := some 72) (v := ?_) rfl rfl (by kernel_rfl) (by kernel_rfl) (by kernel_rfl) (fun _ _ _ h => h) (Or.inl ⟨by first | rfl | (simp [*, Region.wanted, yielded]), ?hyr9⟩) (by assumption) ?restr9
                  case hyr9 => (intro w hSw; (try dsimp only at hSw); go_simp <;> with_reducible rfl)
                  try simp only [Act.put, List.setIfInBounds_toArray, List.set_cons_zero, List.set_cons_succ]
                  refine take_d (i := 9) (d := some 73) (v := ?_) rfl rfl (by kernel_rfl) (by kernel_rfl) (by kernel_rfl) (fun _ _ _ h => h) (Or.inl ⟨by first | rfl | (simp [*, Region.wanted, yielded]), ?hyr10⟩) (by assumption) ?restr10
                  case hyr10 => (intro w hSw; (try dsimp only at hSw); go_simp <;> with_reducible rfl)
                  try simp only [Act.put, List.setIfInBounds_toArray, List.set_cons_zero, List.set_cons_succ]
                  refine take_d (i := 10) (d := some 74) (v := ?_) rfl rfl (by kernel_rfl) (by kernel_rfl) (by kernel_rfl) (fun _ _ _ h => h) (Or.inl ⟨by first | rfl | (simp [*, Region.wanted, yielded]), ?hyr11⟩) (by assumption) ?restr11
                  case hyr11 => (intro w hSw; (try dsimp only at hSw); go_simp <;> with_reducible rfl)
                  try simp only [Act.put, List.setIfInBounds_toArray, List.set_cons_zero, List.set_cons_succ]
                  refine take_d (i := 11) (d := some 75) (v := ?_) rfl rfl (by kernel_rfl) (by kernel_rfl) (by kernel_rfl) (fun _ _ _ h => h) (Or.inl ⟨by first | rfl | (simp [*, Region.wanted, yielded]), ?hyr12⟩) (by assumption) ?restr12
                  case hyr12 => (intro w hSw; (try dsimp only at hSw); go_simp <;> with_reducible rfl)
                  try simp only [Act.put, List.setIfInBounds_toArray, List.set_cons_zero, List.set_cons_succ]
                  refine take_d (i := 12) (d := some 76) (v := ?_) rfl rfl (by kernel_rfl) (by kernel_rfl) (by kernel_rfl) (fun _ _ _ h => h) (Or.inl ⟨by first | rfl | (simp [*, Region.wanted, yielded]), ?hyr13⟩) (by assumption) ?restr13
                  case hyr13 => (intro w hSw; (try dsimp only at hSw); go_simp <;> with_reducible rfl)
                  try simp only [Act.put, List.setIfInBounds_toArray, List.set_cons_zero, List.set_cons_succ]
                  refine wpAnyH_ready (rs := [13]) (by kernel_rfl) (by simp) ?_
                  refine AllReadyH.cons (o := _) rfl (fun K hK => ?_) AllReadyH.nil
                  go_simp
                  go_wp2_with fail
                  refine hK.out _ _ (HKs.out (.bool ob)) (fun hHeld => ?_)
                  clear hK K
                  try simp only [Act.put, List.setIfInBounds_toArray, List.set_cons_zero, List.set_cons_succ]
                  refine wpAnyH_done (by kernel_rfl) ?_ _
                  go_simp
                  go_wp2
                  go_roundw
                  case rel => exact ⟨j + 1, by omega, by go_num, HO5, HB5⟩
                  case measure => simp [intOf]; omega
                · obtain rfl : j = xs.length := by omega
                  have hOe := HOj.out
                  rw [HFu.out] at hOe
                  have HOe := hid hOe
                  have HS5 := hid (HS4.out.keep HBj.out)
                  have a0 := HS5.out.1
                  have a1 := HS5.out.2.1
                  have a2 := HS5.out.2.2.1
                  have HM5 := hid (HWk.out (some ⟨g4, 0, none⟩) d4 wr HS5.out.below (HK4.out wr HBj.out))
                  clear hOe HOj HWk
                  go_wp2_with fail
                  refine HM5.out.mono ?_
                  rintro e w6 ⟨q6, A6, c6, rfl, hR6, _⟩
                  have HC6 := hid (HCk.out A6 c6 (some ⟨w4.heap.size, 0, none⟩) p w6 hR6 ((HOe.out.at_ (by omega)).below q6))
                  have HS6 := hid (HS5.out.keep q6)
                  have HB6 := hid (HBj.out.trans (q6.mono HBj.out.size))
                  clear q6 hR6 HM5 HCk HS5
                  go_wp2_with fail
                  refine HC6.out.mono ?_
                  rintro e w7 ⟨q7, A7, c7, rfl, hB7, _⟩
                  have HB7 := hid (HB6.out.trans (q7.mono HB6.out.size))
                  have HAl := hid (all_any A7 p _ c7 A4 xs c4 w7 hB7 (HI4.out w7 HB7.out) HSm.out (by omega))
                  have HBf := hid (HB4.out.trans (HB7.out.mono HB4.out.size))
                  rw [← HSd.out] at HAl
                  clear q7 hB7 HC6 HS6 HB6
                  generalize hsd : selfD rls O k = sd at *
                  clear hsd
                  cases sd with
                  | true =>
                    have HE := hid (HE1.out rfl)
                    clear HE1 HE0
                    go_wp2_with fail
                    refine HAl.out.mono ?_
                    rintro e w8 ⟨rfl, rfl⟩
                    go_wp2
                    go_roundw
                    case rel => exact ⟨k + 1, by omega, by go_num, by rw [HE.out, HCx.out], HBf.out⟩
                    case measure => simp [intOf]; omega
                  | false =>
                    have HE := hid (HE0.out rfl)
                    clear HE1 HE0
                    go_wp2_with fail
                    refine HAl.out.mono ?_
                    rintro e w8 ⟨rfl, rfl⟩
                    go_wp2
                    go_roundw
                    case rel => exact ⟨k + 1, by omega, by go_num, by rw [HE.out] <;> rfl, HBf.out⟩
                    case measure => simp [intOf]; omega
            · try subst hBz
              try (have hb2 : ¬ B ≤ xs.length := by omega)
              go_wp2
              clear hmk c4m
              obtain ⟨wz, hwz⟩ : ∃ wz : World, wz = wr := ⟨_, rfl⟩
              clear hwz
              go_loopw [16] (fun i wq => ∃ j : Nat, j ≤ xs.length ∧ i = .int .i64 j ∧ Hid (OwnB wq w4.heap.size w4.heap.size p (selTo O xs j) p) ∧ Hid (Below w4.heap.size w4 wq)) (fun i _ => xs.length - (intOf i).toNat)
              case atStart => exact ⟨0, Nat.zero_le _, rfl, HOm.out, (Below.refl _ _).alloc (Nat.le_refl _) _⟩
              case round =>
                obtain ⟨j, hj, rfl, HOj, HBj⟩ := hrel
                by_cases hjl : j < xs.length
                · rcases (HI4.out w4 (Below.refl _ _)).at_ with e | ⟨b4, o4, rfl, hc4⟩
                  · rw [e] at hjl; simp at hjl
                  have c4w := hc4 j hjl
                  have hxm := HSm.out _ (getD_mem xs j hjl)
                  have HSj := hid (HSc.out j hjl)
                  have HFj := hid (HFr.out j hjl)
                  clear hc4
                  generalize xs[j]?.getD 0 = xi at *
                  obtain ⟨x, rfl⟩ := Int.eq_ofNat_of_zero_le hxm.1
                  rw [Int.toNat_natCast] at HSj HFj
                  have hxp : x < p := by omega
                  rcases (HHas.out w4 HB4.out).at_ with e | ⟨bh', oh', eh, hch⟩
                  · omega
                  cases eh
                  have h4w := hch x hxp
                  clear hch
                  have hb4 := cell_lt c4w
                  have hbh := cell_lt h4w
                  dsimp only at hb4 hbh
                  have c4' := (HBj.out.cell (cell_lt c4w)).trans c4w
                  have h4' := (HBj.out.cell (cell_lt h4w)).trans h4w
                  have hown := HOj.out
                  have d1 : wr.cell? ⟨w4.heap.size, x, none⟩ = some (.bool ((selTo O xs j).testBit x)) := by
                    unfold OwnB at hown
                    rw [hown.cellAt _ (by omega), bcells_at _ p x hxp]
                  have f1 : wr.frozen? ⟨w4.heap.size, x, none⟩ = false := by unfold OwnB at hown; exact hown.frozenAt x
                  have HKs := hid (fun (u : Value) => (show (wr.drew.setCell ⟨w4.heap.size, x, none⟩ u).cell? ⟨b4, o4 + j, none⟩ = some (.int .i64 (x : Int)) ∧ (wr.drew.setCell ⟨w4.heap.size, x, none⟩ u).cell? ⟨bh, oh + x, none⟩ = some (.bool (O.testBit x)) from
                    ⟨by rw [World.cell?_setCell_far _ _ _ _ (by dsimp only; omega)]; exact c4', by rw [World.cell?_setCell_far _ _ _ _ (by dsimp only; omega)]; exact h4'⟩))
                  have HO5 := hid (show OwnB (wr.drew.setCell ⟨w4.heap.size, x, none⟩ (.bool (O.testBit x))) w4.heap.size w4.heap.size p (selTo O xs (j + 1)) p from by
                    have hd : OwnB wr.drew w4.heap.size w4.heap.size p (selTo O xs j) p := hown.below (Below.refl _ _).drew
                    rw [HSj.out]
                    cases hob : O.testBit x with
                    | true => rw [if_pos rfl]; exact hd.set x
                    | false => rw [if_neg (by simp)]; exact hd.setF x HFj.out)
                  have HB5 := hid (show Below w4.heap.size w4 (wr.drew.setCell ⟨w4.heap.size, x, none⟩ (.bool (O.testBit x))) from (HBj.out.drew).setCell (Nat.le_refl _) _)
                  generalize O.testBit x = ob at *
                  have hj0 : (0 : Int) ≤ (j : Int) := by omega
                  have hj1 : (j : Int) < (xs.length : Int) := by omega
                  have hx0 : (0 : Int) ≤ (x : Int) := by omega
                  have hx1 : (x : Int) < (p : Int) := by omega
                  clear hown hxm
                  go_wp2
                  refine wp_region_held_drew (S := (fun w' => w'.cell? ⟨b4, o4 + j, none⟩ = some (.int .i64 (x : Int)) ∧ w'.cell? ⟨bh, oh + x, none⟩ = some (.bool ob))) (by kernel_rfl) ⟨c4', h4'⟩ (fun hHeld => ?_)
                  refine take_d (i := 0) (d := some 64) (v := ?_) rfl rfl (by kernel_rfl) (by kernel_rfl) (by kernel_rfl) (fun _ _ _ h => h) (Or.inl ⟨by first | rfl | (simp [*, Region.wanted, yielded]), ?hys1⟩) (by assumption) ?rests1
                  case hys1 => (intro w hSw; (try dsimp only at hSw); go_simp <;> with_reducible rfl)
                  try simp only [Act.put, List.setIfInBounds_toArray, List.set_cons_zero, List.set_cons_succ]
                  refine take_d (i := 1) (d := some 65) (v := ?_) rfl rfl (by kernel_rfl) (by kernel_rfl) (by kernel_rfl) (fun _ _ _ h => h) (Or.inl ⟨by first | rfl | (simp [*, Region.wanted, yielded]), ?hys2⟩) (by assumption) ?rests2
                  case hys2 => (intro w hSw; (try dsimp only at hSw); go_simp <;> with_reducible rfl)
                  try simp only [Act.put, List.setIfInBounds_toArray, List.set_cons_zero, List.set_cons_succ]
                  refine take_d (i := 2) (d := some 66) (v := ?_) rfl rfl (by kernel_rfl) (by kernel_rfl) (by kernel_rfl) (fun _ _ _ h => h) (Or.inl ⟨by first | rfl | (simp [*, Region.wanted, yielded]), ?hys3⟩) (by assumption) ?rests3
                  case hys3 => (intro w hSw; (try dsimp only at hSw); go_simp <;> with_reducible rfl)
                  try simp only [Act.put, List.setIfInBounds_toArray, List.set_cons_zero, List.set_cons_succ]
                  refine take_d (i := 3) (d := some 67) (v := ?_) rfl rfl (by kernel_rfl) (by kernel_rfl) (by kernel_rfl) (fun _ _ _ h => h) (Or.inl ⟨by first | rfl | (simp [*, Region.wanted, yielded]), ?hys4⟩) (by assumption) ?rests4
                  case hys4 => (intro w hSw; (try dsimp only at hSw); go_simp <;> with_reducible rfl)
                  try simp only [Act.put, List.setIfInBounds_toArray, List.set_cons_zero, List.set_cons_succ]
                  refine take_d (i := 4) (d := some 68) (v := ?_) rfl rfl (by kernel_rfl) (by kernel_rfl) (by kernel_rfl) (fun _ _ _ h => h) (Or.inl ⟨by first | rfl | (simp [*, Region.wanted, yielded]), ?hys5⟩) (by assumption) ?rests5
                  case hys5 => (intro w hSw; (try dsimp only at hSw); go_simp <;> with_reducible rfl)
                  try simp only [Act.put, List.setIfInBounds_toArray, List.set_cons_zero, List.set_cons_succ]
                  refine take_d (i := 5) (d := some 69) (v := ?_) rfl rfl (by kernel_rfl) (by kernel_rfl) (by kernel_rfl) (fun _ _ _ h => h) (Or.inl ⟨by first | rfl | (simp [*, Region.wanted, yielded]), ?hys6⟩) (by assumption) ?rests6
                  case hys6 => (intro w hSw; (try dsimp only at hSw); go_simp <;> with_reducible rfl)
                  try simp only [Act.put, List.setIfInBounds_toArray, List.set_cons_zero, List.set_cons_succ]
                  refine take_d (i := 6) (d := some 70) (v := ?_) rfl rfl (by kernel_rfl) (by kernel_rfl) (by kernel_rfl) (fun _ _ _ h => h) (Or.inl ⟨by first | rfl | (simp [*, Region.wanted, yielded]), ?hys7⟩) (by assumption) ?rests7
                  case hys7 => (intro w hSw; (try dsimp only at hSw); go_simp <;> with_reducible rfl)
                  try simp only [Act.put, List.setIfInBounds_toArray, List.set_cons_zero, List.set_cons_succ]
                  refine take_d (i := 7) (d := some 71) (v := ?_) rfl rfl (by kernel_rfl) (by kernel_rfl) (by kernel_rfl) (fun _ _ _ h => h) (Or.inl ⟨by first | rfl | (simp [*, Region.wanted, yielded]), ?hys8⟩) (by assumption) ?rests8
                  case hys8 => (intro w hSw; (try dsimp only at hSw); go_simp <;> with_reducible rfl)
                  try simp only [Act.put, List.setIfInBounds_toArray, List.set_cons_zero, List.set_cons_succ]
                  refine take_d (i := 8) (d := some 72) (v := ?_) rfl rfl (by kernel_rfl) (by kernel_rfl) (by kernel_rfl) (fun _ _ _ h => h) (Or.inl ⟨by first | rfl | (simp [*, Region.wanted, yielded]), ?hys9⟩) (by assumption) ?rests9
                  case hys9 => (intro w hSw; (try dsimp only at hSw); go_simp <;> with_reducible rfl)
                  try simp only [Act.put, List.setIfInBounds_toArray, List.set_cons_zero, List.set_cons_succ]
                  refine take_d (i := 9) (d := some 73) (v := ?_) rfl rfl (by kernel_rfl) (by kernel_rfl) (by kernel_rfl) (fun _ _ _ h => h) (Or.inl ⟨by first | rfl | (simp [*, Region.wanted, yielded]), ?hys10⟩) (by assumption) ?rests10
                  case hys10 => (intro w hSw; (try dsimp only at hSw); go_simp <;> with_reducible rfl)
                  try simp only [Act.put, List.setIfInBounds_toArray, List.set_cons_zero, List.set_cons_succ]
                  refine take_d (i := 10) (d := some 74) (v := ?_) rfl rfl (by kernel_rfl) (by kernel_rfl) (by kernel_rfl) (fun _ _ _ h => h) (Or.inl ⟨by first | rfl | (simp [*, Region.wanted, yielded]), ?hys11⟩) (by assumption) ?rests11
                  case hys11 => (intro w hSw; (try dsimp only at hSw); go_simp <;> with_reducible rfl)
                  try simp only [Act.put, List.setIfInBounds_toArray, List.set_cons_zero, List.set_cons_succ]
                  refine take_d (i := 11) (d := some 75) (v := ?_) rfl rfl (by kernel_rfl) (by kernel_rfl) (by kernel_rfl) (fun _ _ _ h => h) (Or.inl ⟨by first | rfl | (simp [*, Region.wanted, yielded]), ?hys12⟩) (by assumption) ?rests12
                  case hys12 => (intro w hSw; (try dsimp only at hSw); go_simp <;> with_reducible rfl)
                  try simp only [Act.put, List.setIfInBounds_toArray, List.set_cons_zero, List.set_cons_succ]
                  refine take_d (i := 12) (d := some 76) (v := ?_) rfl rfl (by kernel_rfl) (by kernel_rfl) (by kernel_rfl) (fun _ _ _ h => h) (Or.inl ⟨by first | rfl | (simp [*, Region.wanted, yielded]), ?hys13⟩) (by assumption) ?rests13
                  case hys13 => (intro w hSw; (try dsimp only at hSw); go_simp <;> with_reducible rfl)
                  try simp only [Act.put, List.setIfInBounds_toArray, List.set_cons_zero, List.set_cons_succ]
                  refine wpAnyH_ready (rs := [13]) (by kernel_rfl) (by simp) ?_
                  refine AllReadyH.cons (o := _) rfl (fun K hK => ?_) AllReadyH.nil
                  go_simp
                  go_wp2_with fail
                  refine hK.out _ _ (HKs.out (.bool ob)) (fun hHeld => ?_)
                  clear hK K
                  try simp only [Act.put, List.setIfInBounds_toArray, List.set_cons_zero, List.set_cons_succ]
                  refine wpAnyH_done (by kernel_rfl) ?_ _
                  go_simp
                  go_wp2
                  go_roundw
                  case rel => exact ⟨j + 1, by omega, by go_num, HO5, HB5⟩
                  case measure => simp [intOf]; omega
                · obtain rfl : j = xs.length := by omega
                  have hOe := HOj.out
                  rw [HFu.out] at hOe
                  have HOe := hid hOe
                  have HS5 := hid (HS4.out.keep HBj.out)
                  have a0 := HS5.out.1
                  have a1 := HS5.out.2.1
                  have a2 := HS5.out.2.2.1
                  have HM5 := hid (HWk.out (some ⟨g4, 0, none⟩) d4 wr HS5.out.below (HK4.out wr HBj.out))
                  clear hOe HOj HWk
                  go_wp2_with fail
                  refine HM5.out.mono ?_
                  rintro e w6 ⟨q6, A6, c6, rfl, hR6, _⟩
                  have HC6 := hid (HCk.out A6 c6 (some ⟨w4.heap.size, 0, none⟩) p w6 hR6 ((HOe.out.at_ (by omega)).below q6))
                  have HS6 := hid (HS5.out.keep q6)
                  have HB6 := hid (HBj.out.trans (q6.mono HBj.out.size))
                  clear q6 hR6 HM5 HCk HS5
                  go_wp2_with fail
                  refine HC6.out.mono ?_
                  rintro e w7 ⟨q7, A7, c7, rfl, hB7, _⟩
                  have HB7 := hid (HB6.out.trans (q7.mono HB6.out.size))
                  have HAl := hid (all_any A7 p _ c7 A4 xs c4 w7 hB7 (HI4.out w7 HB7.out) HSm.out (by omega))
                  have HBf := hid (HB4.out.trans (HB7.out.mono HB4.out.size))
                  rw [← HSd.out] at HAl
                  clear q7 hB7 HC6 HS6 HB6
                  generalize hsd : selfD rls O k = sd at *
                  clear hsd
                  cases sd with
                  | true =>
                    have HE := hid (HE1.out rfl)
                    clear HE1 HE0
                    go_wp2_with fail
                    refine HAl.out.mono ?_
                    rintro e w8 ⟨rfl, rfl⟩
                    go_wp2
                    go_roundw
                    case rel => exact ⟨k + 1, by omega, by go_num, by rw [HE.out, HCx.out], HBf.out⟩
                    case measure => simp [intOf]; omega
                  | false =>
                    have HE := hid (HE0.out rfl)
                    clear HE1 HE0
                    go_wp2_with fail
                    refine HAl.out.mono ?_
                    rintro e w8 ⟨rfl, rfl⟩
                    go_wp2
                    go_roundw
                    case rel => exact ⟨k + 1, by omega, by go_num, by rw [HE.out] <;> rfl, HBf.out⟩
                    case measure => simp [intOf]; omega
      · obtain rfl : k = N := by omega
        have HF := hid (HX.out _ rfl)
        have HBf := hid HSr.out.below
        generalize bestTo (selfD rls O) m k = B at *
        generalize hfd : decide (0 < B) = fd at *
        have HFd := hid hfd
        clear hfd
        go_wp2
        refine bodyPost_ret (v := .tuple #[.int .i64 (B : Int), .bool fd, .int .i64 0]) (by simp [results, Try.results33, go_sem, HFd.out]) rfl ⟨HBf.out, B, fd, 0, rfl, HF.out⟩
  · have HA := hid (show shortA P its rls item prop 0 false (propE P its rls item prop) by unfold shortA; rw [if_pos h0]; exact ⟨rfl, rfl, rfl⟩)
    have h0' : (propE P its rls item prop != 0) = true := by simp [h0]
    clear h0 h
    generalize propE P its rls item prop = x at *
    go_enter Try.func33, Try.ntmps33
    go_wp2_with fail
    refine HC.out.mono ?_
    rintro e w1 ⟨q1, rfl⟩
    have HS1 := hid (HS0.out.keep q1)
    go_wp2
    refine bodyPost_ret (v := .tuple #[.int .i64 0, .bool false, .int .i64 x]) (by simp [results, Try.results33, go_sem]) rfl ⟨HS1.out.below, 0, false, x, rfl, HA.out⟩
end Go.Proofs.Ytdgleicpcjfnoaa
