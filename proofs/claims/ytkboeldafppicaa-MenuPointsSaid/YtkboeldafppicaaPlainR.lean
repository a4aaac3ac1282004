/- The plain form of the machine of a rule whose states are of type recent. -/
import Derived.Test.YtkboeldafppicaaPlainM
import Derived.Test.YtkboeldafppicaaPlainC
import Derived.Test.YtkboeldafppicaaListedR
import Derived.Test.YtkboeldafppicaaListedI
set_option linter.unusedVariables false
set_option linter.unusedSimpArgs false
namespace Go.Proofs.Ytkboeldafppicaa
open Go.RowKit Go.Maps

theorem egP : (∀ args (w : World), (callFunc 129 args).run Try.prog w = .ok (.enter 129 args) w) ∧ (∀ args (w : World), (callFunc 72 args).run Try.prog w = .ok (.enter 72 args) w) := ⟨fun _ _ => by kernel_rfl, fun _ _ => by kernel_rfl⟩

set_option maxRecDepth 100000 in
set_option maxHeartbeats 8000000 in
theorem plainR_any (L : Nat) (hL : L ≤ 6) (hL1 : 1 ≤ L) (s0 : Rec) (next : Rec → Nat → Rec) (acc : Rec → Bool) (Pd : Rec → Prop) (M : Nat) (fN fA : Nat) (preN postN preA postA : Array Value) (w : World)
    (h0 : Pd s0) (hcl : ∀ s c, Pd s → c < L → Pd (next s c)) (hI : ∀ s, Pd s → I64 s.1 ∧ I64 s.2.1) (hM : ∀ l : List Rec, l.Nodup → (∀ s ∈ l, Pd s) → l.length ≤ M) (hM4 : M ≤ 5000)
    (egN : ∀ args w, (callFunc fN args).run Try.prog w = .ok (.enter fN args) w) (egA : ∀ args w, (callFunc fA args).run Try.prog w = .ok (.enter fA args) w)
    (hnext : ∀ w' s (c : Nat), Below w.heap.size w w' → Pd s → c < L → Calls Try.prog fN (preN ++ (#[VR s, .int .i64 c] ++ postN)) w' fun e w'' => Below w'.heap.size w' w'' ∧ e = .returned (VR (next s c)))
    (hacc : ∀ w' s, Below w.heap.size w w' → Pd s → Calls Try.prog fA (preA ++ (#[VR s] ++ postA)) w' fun e w'' => Below w'.heap.size w' w'' ∧ e = .returned (.bool (acc s))) :
  Calls Try.prog 94 #[.agg #[.int .i64 L, .int .i64 s0.1, .int .i64 s0.2.1, .bool s0.2.2, .func (.func fN) preN postN, .func (.func fA) preA postA]] w fun e w' => Below w.heap.size w w' ∧ PlainAns w' w.heap.size L (langOf L next acc s0) e := by
  have HLs := hid (fun wx (hb : Below w.heap.size w wx) => listedR_any L hL hL1 s0 next acc Pd M fN fA preN postN preA postA wx h0 hcl hI hM hM4 egN egA (fun w' s c hb' => hnext w' s c (hb.trans (hb'.mono hb.size))) (fun w' s hb' => hacc w' s (hb.trans (hb'.mono hb.size))))
  clear hnext hacc hM hcl hI egN egA h0
  obtain ⟨a0, b0, l0⟩ := s0
  dsimp only at HLs ⊢
  have hB1 : Below w.heap.size w ((w.alloc (.cells #[.int .i64 (L : Int), .int .i64 a0, .int .i64 b0, .bool l0, .func (.func fN) preN postN, .func (.func fA) preA postA] 107)).alloc (.cells #[.int .i64 0, .slice none 0 0, .slice none 0 0] 25)) := ((Below.refl _ _).alloc (Nat.le_refl _) _).alloc (by simp) _
  go_enter Try.func94, Try.ntmps94
  go_wp2_with fail
  refine (HLs.out _ hB1).mono ?_
  rintro e w1 ⟨hb1, i, Na, nc, Aa, ac, hF, hiM, rfl, hMA⟩
  obtain ⟨hG, hlangs⟩ : GoodM L (listTo L next acc (a0, b0, l0) i).2.1 (listTo L next acc (a0, b0, l0) i).2.2 ∧ (mLang L (listTo L next acc (a0, b0, l0) i).2.1 (listTo L next acc (a0, b0, l0) i).2.2 0 = langOf L next acc (a0, b0, l0) ∧ ∀ s, s < i → ∃ w, Wd L w ∧ w.foldl (mN (listTo L next acc (a0, b0, l0) i).2.1) 0 = s) := ⟨(full_good hL1 hL hF).1, full_lang hL1 hL hF⟩
  have hri := (listTo_len L next acc (a0, b0, l0) i).1
  generalize (listTo L next acc (a0, b0, l0) i).2.1 = rows at *
  generalize (listTo L next acc (a0, b0, l0) i).2.2 = accs at *
  clear hF
  subst hri
  obtain ⟨hlang, hreach⟩ := hlangs
  have HG := hid hG
  have HMA := hid hMA.mach
  have HLang := hid hlang
  have HReach := hid hreach
  have hmf : FullC L (langOf L next acc (a0, b0, l0)) = FullC L (mLang L rows accs 0) := by rw [hlang]
  have hpos := hG.pos
  have hn5 : rows.length ≤ 5000 := by omega
  have HB1 := hid (hB1.trans (hb1.mono (by simp; omega)))
  have z0 : w1.cell? ⟨w.heap.size + 1, 0, none⟩ = some (.int .i64 0) := by rw [hb1.cell (by simp)]; go_simp
  have z1 : w1.cell? ⟨w.heap.size + 1, 1, none⟩ = some (.slice none 0 0) := by rw [hb1.cell (by simp)]; go_simp
  have z2 : w1.cell? ⟨w.heap.size + 1, 2, none⟩ = some (.slice none 0 0) := by rw [hb1.cell (by simp)]; go_simp
  have y0 : w1.frozen? ⟨w.heap.size + 1, 0, none⟩ = false := by rw [hb1.frozen (by simp)]; go_simp
  have y1 : w1.frozen? ⟨w.heap.size + 1, 1, none⟩ = false := by rw [hb1.frozen (by simp)]; go_simp
  have y2 : w1.frozen? ⟨w.heap.size + 1, 2, none⟩ = false := by rw [hb1.frozen (by simp)]; go_simp
  have hsz1 : w.heap.size + 1 < w1.heap.size := cell_lt z0
  clear hG hMA hlang hreach hB1 hb1 HLs hmf
  have hA2 : Below w1.heap.size w1 (w1.alloc (.cells #[.int .i64 (L : Int), .slice Na rows.length nc, .slice Aa rows.length ac] 73)) := (Below.refl _ _).alloc (Nat.le_refl _) _
  unfold machV
  go_wp2_with fail
  refine (alike_any L nc ac Na Aa rows accs _ (HMA.out.below hA2) HG.out hn5).mono ?_
  rintro e w2 ⟨hb2, K, c, k, rfl, hK, hst⟩
  have HK := hid hK
  have HSt := hid hst
  have HCn := hid (kinds_canon (accs := accs) HG.out.cl hpos k)
  clear hK hst
  have hb2' := hb2.mono (show w1.heap.size ≤ (w1.alloc (.cells #[.int .i64 (L : Int), .slice Na rows.length nc, .slice Aa rows.length ac] 73)).heap.size by simp)
  have hb12 := hA2.trans hb2'
  have z0 := (hb12.cell (cell_lt z0)).trans z0
  have z1 := (hb12.cell (cell_lt z1)).trans z1
  have z2 := (hb12.cell (cell_lt z2)).trans z2
  have y0 := (hb12.frozen (p := ⟨w.heap.size + 1, 0, none⟩) hsz1).trans y0
  have y1 := (hb12.frozen (p := ⟨w.heap.size + 1, 1, none⟩) hsz1).trans y1
  have y2 := (hb12.frozen (p := ⟨w.heap.size + 1, 2, none⟩) hsz1).trans y2
  have m0 : w2.cell? ⟨w1.heap.size, 0, none⟩ = some (.int .i64 (L : Int)) := by rw [hb2.cell (by simp)]; go_simp
  have m1 : w2.cell? ⟨w1.heap.size, 1, none⟩ = some (.slice Na rows.length nc) := by rw [hb2.cell (by simp)]; go_simp
  have m2 : w2.cell? ⟨w1.heap.size, 2, none⟩ = some (.slice Aa rows.length ac) := by rw [hb2.cell (by simp)]; go_simp
  have HM2 := hid (HMA.out.below hb12)
  have HB2 := hid (HB1.out.trans (hb12.mono HB1.out.size))
  have hs12 : w1.heap.size < w2.heap.size := cell_lt m0
  have hsz2 : w.heap.size + 1 < w2.heap.size := by omega
  clear hA2 hb2 hb2' hb12 HMA HB1
  generalize hcnt : (repsk L (mN rows) (mA accs) (k + 1) rows.length).length = cnt at *
  by_cases h64 : 64 < cnt
  · have h64' : (64 : Int) < (cnt : Int) := by omega
    obtain ⟨j, hFj, _⟩ := fullC_exists (accs := accs) HG.out.cl 0 hpos
    have hjl := reps_large (k := k + 1) HReach.out hFj
    rw [hcnt] at hjl
    have HA := hid (show ∃ i, FullC L (langOf L next acc (a0, b0, l0)) i ∧ 64 < i from ⟨j, by rw [← HLang.out]; exact hFj, by omega⟩)
    clear hFj hjl hcnt
    go_wp2
    have t0 : ((((w2.setCell ⟨w.heap.size + 1, 0, none⟩ (.int .i64 0)).setCell ⟨w.heap.size + 1, 1, none⟩ (.slice none 0 0)).setCell ⟨w.heap.size + 1, 2, none⟩ (.slice none 0 0)).alloc (.cells #[.slice K rows.length c] 26)).cell? ⟨w.heap.size + 1, 0, none⟩ = some (.int .i64 0) := by go_simp
    have t1 : ((((w2.setCell ⟨w.heap.size + 1, 0, none⟩ (.int .i64 0)).setCell ⟨w.heap.size + 1, 1, none⟩ (.slice none 0 0)).setCell ⟨w.heap.size + 1, 2, none⟩ (.slice none 0 0)).alloc (.cells #[.slice K rows.length c] 26)).cell? ⟨w.heap.size + 1, 1, none⟩ = some (.slice none 0 0) := by go_simp
    have t2 : ((((w2.setCell ⟨w.heap.size + 1, 0, none⟩ (.int .i64 0)).setCell ⟨w.heap.size + 1, 1, none⟩ (.slice none 0 0)).setCell ⟨w.heap.size + 1, 2, none⟩ (.slice none 0 0)).alloc (.cells #[.slice K rows.length c] 26)).cell? ⟨w.heap.size + 1, 2, none⟩ = some (.slice none 0 0) := by go_simp
    have HBz := hid ((((HB2.out.setCell (p := ⟨w.heap.size + 1, 0, none⟩) (by simp) (.int .i64 0)).setCell (p := ⟨w.heap.size + 1, 1, none⟩) (by simp) (.slice none 0 0)).setCell (p := ⟨w.heap.size + 1, 2, none⟩) (by simp) (.slice none 0 0)).alloc (by simp; omega) (.cells #[.slice K rows.length c] 26))
    generalize ((((w2.setCell ⟨w.heap.size + 1, 0, none⟩ (.int .i64 0)).setCell ⟨w.heap.size + 1, 1, none⟩ (.slice none 0 0)).setCell ⟨w.heap.size + 1, 2, none⟩ (.slice none 0 0)).alloc (.cells #[.slice K rows.length c] 26)) = wz at *
    obtain ⟨i2, hA1, hA2⟩ := HA.out
    refine bodyPost_ret (v := .tuple #[machV 0 none 0 0 none 0 0, .int .i64 4]) (by simp [machV, results, Try.results94, go_sem, t0, t1, t2]) rfl ⟨HBz.out, i2, hA1, .inl ⟨hA2, rfl⟩⟩
  · have h64' : ¬ (64 : Int) < (cnt : Int) := by omega
    have HC := hid (HCn.out (by have := HSt.out; omega))
    have HEq := hid (fun i (hq : FullC L (mLang L rows accs 0) i) => (reps_canon_eq HG.out.cl hpos HReach.out hq (k := k) (by rw [hcnt]; have := HSt.out; omega)).symm.trans hcnt)
    have HA4 := hid (show Below w2.heap.size w2 (w2.alloc (.cells #[.slice K rows.length c] 26)) from (Below.refl _ _).alloc (Nat.le_refl _) _)
    have hz4 : (w2.alloc (.cells #[.slice K rows.length c] 26)).cell? ⟨w2.heap.size, 0, none⟩ = some (.slice K rows.length c) := by go_simp
    have HZ4 := hid hz4
    have n0 := (HA4.out.cell (cell_lt m0)).trans m0
    have n1 := (HA4.out.cell (cell_lt m1)).trans m1
    have n2_ := (HA4.out.cell (cell_lt m2)).trans m2
    have HM0 := hid (And.intro n0 (And.intro n1 n2_))
    have HN2 := hid (show ∀ (w' : World) (s : Int) (q : Nat), Below (w2.alloc (.cells #[.slice K rows.length c] 26)).heap.size (w2.alloc (.cells #[.slice K rows.length c] 26)) w' → Rep L rows accs (k + 1) s → q < L → Calls Try.prog 129 (#[] ++ (#[VI s, .int .i64 q] ++ #[.pointer (some ⟨w2.heap.size, 0, none⟩), .pointer (some ⟨w1.heap.size, 0, none⟩)])) w' fun e w'' => Below w'.heap.size w' w'' ∧ e = .returned (VI (n2 rows (arrL L (mN rows) (mA accs) (k + 1) rows.length) s q)) from by
      rintro w' s q hb ⟨j, rfl, hj, hf⟩ hq
      exact plainCR_any L j q nc ac c w2.heap.size w1.heap.size Na Aa K rows accs (arrL L (mN rows) (mA accs) (k + 1) rows.length) w' ((HM2.out.below HA4.out).below hb) HG.out hj hq ((HK.out.below HA4.out).below hb) (arrL_len _ _ _ _ _) ((hb.cell (cell_lt HZ4.out)).trans HZ4.out) ((hb.cell (cell_lt HM0.out.1)).trans HM0.out.1) ((hb.cell (cell_lt HM0.out.2.1)).trans HM0.out.2.1) ((hb.cell (cell_lt HM0.out.2.2)).trans HM0.out.2.2))
    have HC2 := hid (show ∀ (w' : World) (s : Int), Below (w2.alloc (.cells #[.slice K rows.length c] 26)).heap.size (w2.alloc (.cells #[.slice K rows.length c] 26)) w' → Rep L rows accs (k + 1) s → Calls Try.prog 72 (#[machV L Na rows.length nc Aa rows.length ac] ++ (#[VI s] ++ #[])) w' fun e w'' => Below w'.heap.size w' w'' ∧ e = .returned (.bool (a2 accs s)) from by
      rintro w' s hb ⟨j, rfl, hj, hf⟩
      exact (accepts_any L j nc ac rows.length rows.length Na Aa rows accs w' ((HM2.out.below HA4.out).below hb) (by rw [HG.out.acc]; exact hj) HG.out.acc.symm).mono (by rintro e w'' ⟨rfl, rfl⟩; exact ⟨(Below.refl _ _).alloc (Nat.le_refl _) _, rfl⟩))
    have HR9 := hid (rep_bound (L := L) (rows := rows) (accs := accs) (k + 1))
    have HRn := hid (fun s q h hq => rep_next (L := L) (rows := rows) (accs := accs) HG.out.cl (k + 1) s q h hq)
    have HRz := hid (rep_zero (L := L) (rows := rows) (accs := accs) (k + 1) hpos)
    clear HSt HCn hcnt hz4 n0 n1 n2_ HM0
    go_wp2_with fail
    refine (listedI_any L hL hL1 0 (n2 rows (arrL L (mN rows) (mA accs) (k + 1) rows.length)) (a2 accs) (Rep L rows accs (k + 1)) rows.length 129 72 #[] #[.pointer (some ⟨w2.heap.size, 0, none⟩), .pointer (some ⟨w1.heap.size, 0, none⟩)] #[machV L Na rows.length nc Aa rows.length ac] #[] (w2.alloc (.cells #[.slice K rows.length c] 26)) HRz.out HRn.out (fun s h => by obtain ⟨j, rfl, hj, _⟩ := h; unfold I64; omega) HR9.out hn5 egP.1 egP.2 HN2.out HC2.out).mono ?_
    rintro e w5 ⟨hb5, i5, Na5, nc5, Aa5, ac5, hF5, hi5, rfl, hMA5⟩
    have hA5 := HA4.out
    have hb25 : Below w2.heap.size w2 w5 := hA5.trans (hb5.mono hA5.size)
    have z0 := (hb25.cell (cell_lt z0)).trans z0
    have z1 := (hb25.cell (cell_lt z1)).trans z1
    have z2 := (hb25.cell (cell_lt z2)).trans z2
    have y0 := (hb25.frozen (p := ⟨w.heap.size + 1, 0, none⟩) hsz2).trans y0
    have y1 := (hb25.frozen (p := ⟨w.heap.size + 1, 1, none⟩) hsz2).trans y1
    have y2 := (hb25.frozen (p := ⟨w.heap.size + 1, 2, none⟩) hsz2).trans y2
    have HB5 := hid (HB2.out.trans (hb25.mono HB2.out.size))
    have hsz5 : w.heap.size + 1 < w5.heap.size := cell_lt z0
    have HFC := hid (show FullC L (langOf L next acc (a0, b0, l0)) i5 ∧ i5 ≤ 64 ∧ (listTo L (n2 rows (arrL L (mN rows) (mA accs) (k + 1) rows.length)) (a2 accs) 0 i5).2 = (canon L (langOf L next acc (a0, b0, l0)) i5).2 from by
      have hq : FullC L (mLang L rows accs 0) i5 := fullC_of (fun i => (HC.out i).1) hF5.1 hF5.2
      exact ⟨by rw [← HLang.out]; exact hq, by have := HEq.out i5 hq; omega, by rw [(HC.out i5).2, HLang.out]⟩)
    have HM5 := hid hMA5
    clear hA5 hb5 hb25 hF5 hMA5 HC HN2 HC2 HR9 HRn HRz HZ4 HA4 HM2 HB2
    unfold machV
    go_wp2
    have t0 : (((w5.setCell ⟨w.heap.size + 1, 0, none⟩ (.int .i64 (L : Int))).setCell ⟨w.heap.size + 1, 1, none⟩ (.slice Na5 i5 nc5)).setCell ⟨w.heap.size + 1, 2, none⟩ (.slice Aa5 i5 ac5)).cell? ⟨w.heap.size + 1, 0, none⟩ = some (.int .i64 (L : Int)) := by go_simp
    have t1 : (((w5.setCell ⟨w.heap.size + 1, 0, none⟩ (.int .i64 (L : Int))).setCell ⟨w.heap.size + 1, 1, none⟩ (.slice Na5 i5 nc5)).setCell ⟨w.heap.size + 1, 2, none⟩ (.slice Aa5 i5 ac5)).cell? ⟨w.heap.size + 1, 1, none⟩ = some (.slice Na5 i5 nc5) := by go_simp
    have t2 : (((w5.setCell ⟨w.heap.size + 1, 0, none⟩ (.int .i64 (L : Int))).setCell ⟨w.heap.size + 1, 1, none⟩ (.slice Na5 i5 nc5)).setCell ⟨w.heap.size + 1, 2, none⟩ (.slice Aa5 i5 ac5)).cell? ⟨w.heap.size + 1, 2, none⟩ = some (.slice Aa5 i5 ac5) := by go_simp
    have HBz := hid (((HB5.out.setCell (p := ⟨w.heap.size + 1, 0, none⟩) (by simp) (.int .i64 (L : Int))).setCell (p := ⟨w.heap.size + 1, 1, none⟩) (by simp) (.slice Na5 i5 nc5)).setCell (p := ⟨w.heap.size + 1, 2, none⟩) (by simp) (.slice Aa5 i5 ac5))
    have HMz := hid (((((HM5.out.setCell ⟨w.heap.size + 1, 0, none⟩ (.int .i64 (L : Int)) (by simp; omega)).setCell ⟨w.heap.size + 1, 1, none⟩ (.slice Na5 i5 nc5) (by simp; omega)).setCell ⟨w.heap.size + 1, 2, none⟩ (.slice Aa5 i5 ac5) (by simp; omega))).weak (B' := w.heap.size) (by simp; omega))
    generalize (((w5.setCell ⟨w.heap.size + 1, 0, none⟩ (.int .i64 (L : Int))).setCell ⟨w.heap.size + 1, 1, none⟩ (.slice Na5 i5 nc5)).setCell ⟨w.heap.size + 1, 2, none⟩ (.slice Aa5 i5 ac5)) = wz at *
    refine bodyPost_ret (v := .tuple #[machV L Na5 i5 nc5 Aa5 i5 ac5, .int .i64 0]) (by simp [machV, results, Try.results94, go_sem, t0, t1, t2]) rfl ⟨HBz.out, i5, HFC.out.1, .inr ⟨HFC.out.2.1, Na5, nc5, Aa5, ac5, rfl, by rw [← HFC.out.2.2]; exact HMz.out⟩⟩
end Go.Proofs.Ytkboeldafppicaa
