/- The laws OrderPays and OrderBills: their walks. -/
import Derived.Test.YtcncnakpehnadaaOrPayS
import Derived.Test.YtcncnakpehnadaaOrderCountsW
set_option linter.unusedVariables false
namespace Go.Proofs.Ytcncnakpehnadaa
open Go.RowKit

/-- A box with rights, prices and a cut. -/
def MonAt (w : World) (b : Nat) (x y : Value) (z : Int) : Prop := w.cell? ⟨b, 0, none⟩ = some x ∧ w.cell? ⟨b, 1, none⟩ = some y ∧ w.cell? ⟨b, 2, none⟩ = some (.int .i64 z)
theorem MonAt.below {w w' : World} {b : Nat} {x y : Value} {z : Int} (h : MonAt w b x y z) (hb : Below w.heap.size w w') : MonAt w' b x y z := by
  obtain ⟨h0, h1, h2⟩ := h
  exact ⟨by rw [hb.cell (cell_lt h0)]; exact h0, by rw [hb.cell (cell_lt h1)]; exact h1, by rw [hb.cell (cell_lt h2)]; exact h2⟩
theorem monAt_new (w : World) (x y : Value) (z : Int) (t : TypeId) : MonAt (w.alloc (.cells #[x, y, .int .i64 z] t)) w.heap.size x y z := by
  refine ⟨?_, ?_, ?_⟩ <;> go_simp
theorem bill_adds {l : List Fct} {r : List Rgt} {p : List Int} {cut c f b t : Int} (h1 : (billL l r p cut c f b).2 = 0) (h2 : (billL l r p cut c b t).2 = 0) : (billL l r p cut c f t).2 = 0 ∧ (billL l r p cut c f b).1 + (billL l r p cut c b t).1 = (billL l r p cut c f t).1 := by
  have e1 : payE l r p cut (inI c 0 99 && strB f b) = 0 := by
    by_cases h : payE l r p cut (inI c 0 99 && strB f b) = 0
    · exact h
    · rw [show billL l r p cut c f b = (0, payE l r p cut (inI c 0 99 && strB f b)) from if_neg h] at h1; exact h1
  have e2 : payE l r p cut (inI c 0 99 && strB b t) = 0 := by
    by_cases h : payE l r p cut (inI c 0 99 && strB b t) = 0
    · exact h
    · rw [show billL l r p cut c b t = (0, payE l r p cut (inI c 0 99 && strB b t)) from if_neg h] at h2; exact h2
  obtain ⟨a0, a1⟩ := payE_ok e1
  obtain ⟨_, b1⟩ := payE_ok e2
  simp at a1 b1
  obtain ⟨c0, c1, c2⟩ := strB_iff.1 a1.2
  obtain ⟨d0, d1, d2⟩ := strB_iff.1 b1.2
  have e3 : payE l r p cut (inI c 0 99 && strB f t) = 0 := by
    unfold payE
    rw [if_pos a0, a1.1, strB_iff.2 ⟨c0, by omega, d2⟩]
    rfl
  rw [show billL l r p cut c f b = (paySum l r p cut c f (b - f).toNat, 0) from if_pos e1, show billL l r p cut c b t = (paySum l r p cut c b (t - b).toNat, 0) from if_pos e2, show billL l r p cut c f t = (paySum l r p cut c f (t - f).toNat, 0) from if_pos e3]
  refine ⟨rfl, ?_⟩
  show paySum l r p cut c f (b - f).toNat + paySum l r p cut c b (t - b).toNat = paySum l r p cut c f (t - f).toNat
  rw [show (t - f).toNat = (b - f).toNat + (t - b).toNat by omega, paySum_split, show f + (((b - f).toNat : Nat) : Int) = b by omega]
theorem bill_bd (l : List Fct) (r : List Rgt) (p : List Int) (cut c f t : Int) : 0 ≤ (billL l r p cut c f t).1 ∧ (billL l r p cut c f t).1 ≤ 10000000 := by
  unfold billL
  split
  · rename_i h
    obtain ⟨a0, a1⟩ := payE_ok h
    obtain ⟨e1, e2, e3, e4⟩ := billE_ok a0
    simp at a1
    obtain ⟨c0, c1, c2⟩ := strB_iff.1 a1.2
    have := paySum_bd (validE_ok e1).2.1 e3 r cut c f (t - f).toNat
    show 0 ≤ paySum l r p cut c f (t - f).toNat ∧ paySum l r p cut c f (t - f).toNat ≤ 10000000
    have h2 : (((t - f).toNat : Nat) : Int) ≤ 1000 := by omega
    omega
  · exact ⟨Int.le_refl _, by show (0 : Int) ≤ 10000000; omega⟩

set_option maxRecDepth 100000 in
set_option maxHeartbeats 1000000 in
theorem orderPays_long (a ra pa : Option Addr) (n lc rn rc pn pc : Nat) (cut x y z : Int) (w : World) (h0 : n ≤ 9223372036854775807) (hr0 : rn ≤ 9223372036854775807) (hp0 : pn ≤ 9223372036854775807) (h200 : 200 < n) :
  Calls Try.prog 13 #[.slice a n lc, .agg #[.slice ra rn rc, .slice pa pn pc, .int .i64 cut], .agg #[.int .i64 x, .int .i64 y, .int .i64 z]] w (BoolR w true) := by
  have hB0 := hid (below_new w (.cells #[.slice ra rn rc, .slice pa pn pc, .int .i64 cut] 73))
  have hB1 := hid (hB0.out.trans ((below_new (w.alloc (.cells #[.slice ra rn rc, .slice pa pn pc, .int .i64 cut] 73)) (.cells #[.int .i64 x, .int .i64 y, .int .i64 z] 36)).mono (by simp)))
  have hd2 : decide ((200 : Int) < (n : Int)) = true := by simp; omega
  go_enter Try.func13, Try.ntmps13
  go_wp2_with fail
  refine (long5_any _ _ _ _ h0).mono ?_
  rintro e w' ⟨rfl, rfl⟩
  rw [hd2]
  go_wp2_with fail
  refine (known5_any _).mono ?_
  rintro e w5 ⟨q5, rfl⟩
  go_wp2
  go_ret
  exact ⟨hB1.out.trans (q5.mono (by simp; omega)), rfl⟩

set_option maxRecDepth 100000 in
set_option maxHeartbeats 1000000 in
theorem orderPays_longR (a ra pa : Option Addr) (n lc rn rc pn pc : Nat) (cut x y z : Int) (w : World) (h0 : n ≤ 9223372036854775807) (hr0 : rn ≤ 9223372036854775807) (hp0 : pn ≤ 9223372036854775807) (h200 : n ≤ 200) (hR : 200 < rn) :
  Calls Try.prog 13 #[.slice a n lc, .agg #[.slice ra rn rc, .slice pa pn pc, .int .i64 cut], .agg #[.int .i64 x, .int .i64 y, .int .i64 z]] w (BoolR w true) := by
  have hB0 := hid (below_new w (.cells #[.slice ra rn rc, .slice pa pn pc, .int .i64 cut] 73))
  have hB1 := hid (hB0.out.trans ((below_new (w.alloc (.cells #[.slice ra rn rc, .slice pa pn pc, .int .i64 cut] 73)) (.cells #[.int .i64 x, .int .i64 y, .int .i64 z] 36)).mono (by simp)))
  have hd2 : decide ((200 : Int) < (n : Int)) = false := by simp; omega
  have hR2 : (200 : Int) < (rn : Int) := by omega
  go_enter Try.func13, Try.ntmps13
  go_wp2_with fail
  refine (long5_any _ _ _ _ h0).mono ?_
  rintro e w' ⟨rfl, rfl⟩
  rw [hd2]
  go_wp2_with fail
  refine (known5_any _).mono ?_
  rintro e w5 ⟨q5, rfl⟩
  go_wp2
  go_ret
  exact ⟨hB1.out.trans (q5.mono (by simp; omega)), rfl⟩

set_option maxRecDepth 100000 in
set_option maxHeartbeats 1000000 in
theorem orderPays_longP (a ra pa : Option Addr) (n lc rn rc pn pc : Nat) (cut x y z : Int) (w : World) (h0 : n ≤ 9223372036854775807) (hr0 : rn ≤ 9223372036854775807) (hp0 : pn ≤ 9223372036854775807) (h200 : n ≤ 200) (hR : rn ≤ 200) (hP : 100 < pn) :
  Calls Try.prog 13 #[.slice a n lc, .agg #[.slice ra rn rc, .slice pa pn pc, .int .i64 cut], .agg #[.int .i64 x, .int .i64 y, .int .i64 z]] w (BoolR w true) := by
  have hB0 := hid (below_new w (.cells #[.slice ra rn rc, .slice pa pn pc, .int .i64 cut] 73))
  have hB1 := hid (hB0.out.trans ((below_new (w.alloc (.cells #[.slice ra rn rc, .slice pa pn pc, .int .i64 cut] 73)) (.cells #[.int .i64 x, .int .i64 y, .int .i64 z] 36)).mono (by simp)))
  have hd2 : decide ((200 : Int) < (n : Int)) = false := by simp; omega
  have hR2 : (rn : Int) ≤ 200 := by omega
  have hP2 : (100 : Int) < (pn : Int) := by omega
  go_enter Try.func13, Try.ntmps13
  go_wp2_with fail
  refine (long5_any _ _ _ _ h0).mono ?_
  rintro e w' ⟨rfl, rfl⟩
  rw [hd2]
  go_wp2_with fail
  refine (known5_any _).mono ?_
  rintro e w5 ⟨q5, rfl⟩
  go_wp2
  go_ret
  exact ⟨hB1.out.trans (q5.mono (by simp; omega)), rfl⟩

set_option maxRecDepth 100000 in
set_option maxHeartbeats 1000000 in
theorem orderBills_long (a ra pa : Option Addr) (n lc rn rc pn pc : Nat) (cut x y z u : Int) (w : World) (h0 : n ≤ 9223372036854775807) (hr0 : rn ≤ 9223372036854775807) (hp0 : pn ≤ 9223372036854775807) (h200 : 200 < n) :
  Calls Try.prog 14 #[.slice a n lc, .agg #[.slice ra rn rc, .slice pa pn pc, .int .i64 cut], .agg #[.int .i64 x, .int .i64 y, .int .i64 z, .int .i64 u]] w (BoolR w true) := by
  have hB0 := hid (below_new w (.cells #[.slice ra rn rc, .slice pa pn pc, .int .i64 cut] 73))
  have hB1 := hid (hB0.out.trans ((below_new (w.alloc (.cells #[.slice ra rn rc, .slice pa pn pc, .int .i64 cut] 73)) (.cells #[.int .i64 x, .int .i64 y, .int .i64 z, .int .i64 u] 77)).mono (by simp)))
  have hd2 : decide ((200 : Int) < (n : Int)) = true := by simp; omega
  go_enter Try.func14, Try.ntmps14
  go_wp2_with fail
  refine (long5_any _ _ _ _ h0).mono ?_
  rintro e w' ⟨rfl, rfl⟩
  rw [hd2]
  go_wp2_with fail
  refine (known5_any _).mono ?_
  rintro e w5 ⟨q5, rfl⟩
  go_wp2
  go_ret
  exact ⟨hB1.out.trans (q5.mono (by simp; omega)), rfl⟩

set_option maxRecDepth 100000 in
set_option maxHeartbeats 1000000 in
theorem orderBills_longR (a ra pa : Option Addr) (n lc rn rc pn pc : Nat) (cut x y z u : Int) (w : World) (h0 : n ≤ 9223372036854775807) (hr0 : rn ≤ 9223372036854775807) (hp0 : pn ≤ 9223372036854775807) (h200 : n ≤ 200) (hR : 200 < rn) :
  Calls Try.prog 14 #[.slice a n lc, .agg #[.slice ra rn rc, .slice pa pn pc, .int .i64 cut], .agg #[.int .i64 x, .int .i64 y, .int .i64 z, .int .i64 u]] w (BoolR w true) := by
  have hB0 := hid (below_new w (.cells #[.slice ra rn rc, .slice pa pn pc, .int .i64 cut] 73))
  have hB1 := hid (hB0.out.trans ((below_new (w.alloc (.cells #[.slice ra rn rc, .slice pa pn pc, .int .i64 cut] 73)) (.cells #[.int .i64 x, .int .i64 y, .int .i64 z, .int .i64 u] 77)).mono (by simp)))
  have hd2 : decide ((200 : Int) < (n : Int)) = false := by simp; omega
  have hR2 : (200 : Int) < (rn : Int) := by omega
  go_enter Try.func14, Try.ntmps14
  go_wp2_with fail
  refine (long5_any _ _ _ _ h0).mono ?_
  rintro e w' ⟨rfl, rfl⟩
  rw [hd2]
  go_wp2_with fail
  refine (known5_any _).mono ?_
  rintro e w5 ⟨q5, rfl⟩
  go_wp2
  go_ret
  exact ⟨hB1.out.trans (q5.mono (by simp; omega)), rfl⟩

set_option maxRecDepth 100000 in
set_option maxHeartbeats 1000000 in
theorem orderBills_longP (a ra pa : Option Addr) (n lc rn rc pn pc : Nat) (cut x y z u : Int) (w : World) (h0 : n ≤ 9223372036854775807) (hr0 : rn ≤ 9223372036854775807) (hp0 : pn ≤ 9223372036854775807) (h200 : n ≤ 200) (hR : rn ≤ 200) (hP : 100 < pn) :
  Calls Try.prog 14 #[.slice a n lc, .agg #[.slice ra rn rc, .slice pa pn pc, .int .i64 cut], .agg #[.int .i64 x, .int .i64 y, .int .i64 z, .int .i64 u]] w (BoolR w true) := by
  have hB0 := hid (below_new w (.cells #[.slice ra rn rc, .slice pa pn pc, .int .i64 cut] 73))
  have hB1 := hid (hB0.out.trans ((below_new (w.alloc (.cells #[.slice ra rn rc, .slice pa pn pc, .int .i64 cut] 73)) (.cells #[.int .i64 x, .int .i64 y, .int .i64 z, .int .i64 u] 77)).mono (by simp)))
  have hd2 : decide ((200 : Int) < (n : Int)) = false := by simp; omega
  have hR2 : (rn : Int) ≤ 200 := by omega
  have hP2 : (100 : Int) < (pn : Int) := by omega
  go_enter Try.func14, Try.ntmps14
  go_wp2_with fail
  refine (long5_any _ _ _ _ h0).mono ?_
  rintro e w' ⟨rfl, rfl⟩
  rw [hd2]
  go_wp2_with fail
  refine (known5_any _).mono ?_
  rintro e w5 ⟨q5, rfl⟩
  go_wp2
  go_ret
  exact ⟨hB1.out.trans (q5.mono (by simp; omega)), rfl⟩

set_option maxRecDepth 100000 in
set_option maxHeartbeats 4000000 in
theorem orderPays_main (a ra pa : Option Addr) (l : List Fct) (r : List Rgt) (p : List Int) (lc rc pc : Nat) (cut x y z : Int) (w : World) (hl : FactsAt w a l) (hcap : l.length ≤ lc) (hr : RgtsAt w ra r) (hp : Ints w pa p) (h200 : l.length ≤ 200) (hR : r.length ≤ 200) (hP : p.length ≤ 100) :
  Calls Try.prog 13 #[.slice a l.length lc, .agg #[.slice ra r.length rc, .slice pa p.length pc, .int .i64 cut], .agg #[.int .i64 x, .int .i64 y, .int .i64 z]] w (BoolR w true) := by
  have hlen := hl.len
  have hB0 : Below w.heap.size w (w.alloc (.cells #[.slice ra r.length rc, .slice pa p.length pc, .int .i64 cut] 73)) := below_new _ _
  have HMo := hid (monAt_new w (.slice ra r.length rc) (.slice pa p.length pc) cut 73)
  have hB1 : Below (w.heap.size + 1) (w.alloc (.cells #[.slice ra r.length rc, .slice pa p.length pc, .int .i64 cut] 73)) ((w.alloc (.cells #[.slice ra r.length rc, .slice pa p.length pc, .int .i64 cut] 73)).alloc (.cells #[.int .i64 x, .int .i64 y, .int .i64 z] 36)) := by
    have := below_new (w.alloc (.cells #[.slice ra r.length rc, .slice pa p.length pc, .int .i64 cut] 73)) (.cells #[.int .i64 x, .int .i64 y, .int .i64 z] 36)
    rwa [World.size_alloc] at this
  have HA : Hid (AskAt ((w.alloc (.cells #[.slice ra r.length rc, .slice pa p.length pc, .int .i64 cut] 73)).alloc (.cells #[.int .i64 x, .int .i64 y, .int .i64 z] 36)) (w.heap.size + 1) x y z) := by
    have := askAt_new (w.alloc (.cells #[.slice ra r.length rc, .slice pa p.length pc, .int .i64 cut] 73)) x y z 36
    rwa [World.size_alloc] at this
  have HM1 := hid (HMo.out.below (by rw [World.size_alloc]; exact hB1))
  have HB := hid (hB0.trans (hB1.mono (by omega)))
  have HL := hid hl
  have HRt := hid hr
  have HPr := hid hp
  have hd2 : decide ((200 : Int) < (l.length : Int)) = false := by simp; omega
  have hR2 : (r.length : Int) ≤ 200 := by omega
  have hP2 : (p.length : Int) ≤ 100 := by omega
  have HK1 := hid (fun W (h : FactsAt W a l) (h2 : RgtsAt W ra r) (h3 : Ints W pa p) => Pay_any a ra pa l r p lc rc pc cut y z W h hcap h2 h3)
  have HK2 := hid (fun W (h : FactsAt W a l) (h2 : RgtsAt W ra r) (h3 : Ints W pa p) => rPay_any a ra pa l r p lc rc pc cut y z W h h2 h3)
  generalize payL l r p cut y z = X at *
  obtain ⟨k1, e1⟩ := X
  clear hl hr hp HMo hB0 hB1
  go_enter Try.func13, Try.ntmps13
  go_wp2_with fail
  refine (long5_any _ _ _ _ (by omega)).mono ?_
  rintro e w' ⟨rfl, rfl⟩
  generalize (w.alloc (.cells #[.slice ra r.length rc, .slice pa p.length pc, .int .i64 cut] 73)).alloc (.cells #[.int .i64 x, .int .i64 y, .int .i64 z] 36) = W0 at *
  obtain ⟨m0, m1, m2⟩ := HM1.out
  obtain ⟨x0, x1, x2⟩ := HA.out
  rw [hd2]
  go_wp2_with fail
  refine (HK1.out W0 (HL.out.below HB.out) (HRt.out.below HB.out) (HPr.out.below HB.out)).mono ?_
  rintro e w1 ⟨q1, rfl⟩
  have p1 := HB.out.trans (q1.mono HB.out.size)
  obtain ⟨m0, m1, m2⟩ := HM1.out.below q1
  obtain ⟨x0, x1, x2⟩ := HA.out.below q1
  go_wp2_with fail
  refine (HK2.out w1 (HL.out.below p1) (HRt.out.below p1) (HPr.out.below p1)).mono ?_
  rintro e w2 ⟨q2, rfl⟩
  have p2 := p1.trans (q2.mono p1.size)
  go_wp2_with fail
  refine (known5_any _).mono ?_
  rintro e w5 ⟨q5, rfl⟩
  go_wp2
  go_ret
  exact ⟨p2.trans (q5.mono p2.size), rfl⟩

set_option maxRecDepth 100000 in
set_option maxHeartbeats 4000000 in
theorem orderBills_main (a ra pa : Option Addr) (l : List Fct) (r : List Rgt) (p : List Int) (lc rc pc : Nat) (cut x y z u : Int) (w : World) (hl : FactsAt w a l) (hcap : l.length ≤ lc) (hr : RgtsAt w ra r) (hp : Ints w pa p) (h200 : l.length ≤ 200) (hR : r.length ≤ 200) (hP : p.length ≤ 100) (k1 e1 k2 e2 k3 e3 : Int) (hK1 : billL l r p cut x y u = (k1, e1)) (hK2 : billL l r p cut x y z = (k2, e2)) (hK3 : billL l r p cut x z u = (k3, e3)) (hb : e2 = 0 → e3 = 0 → e1 = 0 ∧ k2 + k3 = k1) (b2 : 0 ≤ k2 ∧ k2 ≤ 10000000) (b3 : 0 ≤ k3 ∧ k3 ≤ 10000000) :
  Calls Try.prog 14 #[.slice a l.length lc, .agg #[.slice ra r.length rc, .slice pa p.length pc, .int .i64 cut], .agg #[.int .i64 x, .int .i64 y, .int .i64 z, .int .i64 u]] w (BoolR w true) := by
  have hlen := hl.len
  have hB0 : Below w.heap.size w (w.alloc (.cells #[.slice ra r.length rc, .slice pa p.length pc, .int .i64 cut] 73)) := below_new _ _
  have HMo := hid (monAt_new w (.slice ra r.length rc) (.slice pa p.length pc) cut 73)
  have hB1 : Below (w.heap.size + 1) (w.alloc (.cells #[.slice ra r.length rc, .slice pa p.length pc, .int .i64 cut] 73)) ((w.alloc (.cells #[.slice ra r.length rc, .slice pa p.length pc, .int .i64 cut] 73)).alloc (.cells #[.int .i64 x, .int .i64 y, .int .i64 z, .int .i64 u] 77)) := by
    have := below_new (w.alloc (.cells #[.slice ra r.length rc, .slice pa p.length pc, .int .i64 cut] 73)) (.cells #[.int .i64 x, .int .i64 y, .int .i64 z, .int .i64 u] 77)
    rwa [World.size_alloc] at this
  have HA : Hid (StrAt ((w.alloc (.cells #[.slice ra r.length rc, .slice pa p.length pc, .int .i64 cut] 73)).alloc (.cells #[.int .i64 x, .int .i64 y, .int .i64 z, .int .i64 u] 77)) (w.heap.size + 1) x y z u) := by
    have := strAt_new (w.alloc (.cells #[.slice ra r.length rc, .slice pa p.length pc, .int .i64 cut] 73)) x y z u 77
    rwa [World.size_alloc] at this
  have HM1 := hid (HMo.out.below (by rw [World.size_alloc]; exact hB1))
  have HB := hid (hB0.trans (hB1.mono (by omega)))
  have HL := hid hl
  have HRt := hid hr
  have HPr := hid hp
  have hd2 : decide ((200 : Int) < (l.length : Int)) = false := by simp; omega
  have hR2 : (r.length : Int) ≤ 200 := by omega
  have hP2 : (p.length : Int) ≤ 100 := by omega
  have HK1 := hid (fun W (h : FactsAt W a l) (h2 : RgtsAt W ra r) (h3 : Ints W pa p) => Bill_any a ra pa l r p lc rc pc cut x y u W h hcap h2 h3)
  have HK2 := hid (fun W (h : FactsAt W a l) (h2 : RgtsAt W ra r) (h3 : Ints W pa p) => rBill_any a ra pa l r p lc rc pc cut x y u W h h2 h3)
  have HK3 := hid (fun W (h : FactsAt W a l) (h2 : RgtsAt W ra r) (h3 : Ints W pa p) => Bill_any a ra pa l r p lc rc pc cut x y z W h hcap h2 h3)
  have HK4 := hid (fun W (h : FactsAt W a l) (h2 : RgtsAt W ra r) (h3 : Ints W pa p) => Bill_any a ra pa l r p lc rc pc cut x z u W h hcap h2 h3)
  rw [hK1] at HK1 HK2
  rw [hK2] at HK3
  rw [hK3] at HK4
  have HBd := hid hb
  clear hK1 hK2 hK3 hb
  clear hl hr hp HMo hB0 hB1
  go_enter Try.func14, Try.ntmps14
  go_wp2_with fail
  refine (long5_any _ _ _ _ (by omega)).mono ?_
  rintro e w' ⟨rfl, rfl⟩
  generalize (w.alloc (.cells #[.slice ra r.length rc, .slice pa p.length pc, .int .i64 cut] 73)).alloc (.cells #[.int .i64 x, .int .i64 y, .int .i64 z, .int .i64 u] 77) = W0 at *
  obtain ⟨m0, m1, m2⟩ := HM1.out
  obtain ⟨x0, x1, x2, x3⟩ := HA.out
  rw [hd2]
  go_wp2_with fail
  refine (HK1.out W0 (HL.out.below HB.out) (HRt.out.below HB.out) (HPr.out.below HB.out)).mono ?_
  rintro e w1 ⟨qw1, rfl⟩
  have p1 := HB.out.trans (qw1.mono HB.out.size)
  have HM2 := hid (HM1.out.below qw1)
  have HA2 := hid (HA.out.below qw1)
  obtain ⟨m0, m1, m2⟩ := HM2.out
  obtain ⟨x0, x1, x2, x3⟩ := HA2.out
  go_wp2_with fail
  refine (HK2.out w1 (HL.out.below p1) (HRt.out.below p1) (HPr.out.below p1)).mono ?_
  rintro e w2 ⟨qw2, rfl⟩
  have p2 := p1.trans (qw2.mono p1.size)
  have HM3 := hid (HM2.out.below qw2)
  have HA3 := hid (HA2.out.below qw2)
  obtain ⟨m0, m1, m2⟩ := HM3.out
  obtain ⟨x0, x1, x2, x3⟩ := HA3.out
  go_wp2_with fail
  refine (HK3.out w2 (HL.out.below p2) (HRt.out.below p2) (HPr.out.below p2)).mono ?_
  rintro e w3 ⟨qw3, rfl⟩
  have p3 := p2.trans (qw3.mono p2.size)
  have HM4 := hid (HM3.out.below qw3)
  have HA4 := hid (HA3.out.below qw3)
  obtain ⟨m0, m1, m2⟩ := HM4.out
  obtain ⟨x0, x1, x2, x3⟩ := HA4.out
  go_wp2_with fail
  refine (HK4.out w3 (HL.out.below p3) (HRt.out.below p3) (HPr.out.below p3)).mono ?_
  rintro e w4 ⟨qw4, rfl⟩
  have p4 := p3.trans (qw4.mono p3.size)
  by_cases h2 : e2 = 0
  · by_cases h3 : e3 = 0
    · obtain ⟨h1, hs⟩ := HBd.out h2 h3
      subst h1 h2 h3 hs
      go_wp2_with fail
      refine (known5_any w4).mono ?_
      rintro e w5 ⟨q5, rfl⟩
      go_wp2
      go_ret
      exact ⟨p4.trans (q5.mono p4.size), rfl⟩
    · have h3' : (e3 != 0) = true := by simp [h3]
      subst h2
      clear h3
      go_wp2_with fail
      refine (known5_any w4).mono ?_
      rintro e w5 ⟨q5, rfl⟩
      go_wp2
      go_ret
      exact ⟨p4.trans (q5.mono p4.size), rfl⟩
  · have h2' : (e2 != 0) = true := by simp [h2]
    clear h2
    go_wp2_with fail
    refine (known5_any w4).mono ?_
    rintro e w5 ⟨q5, rfl⟩
    go_wp2
    go_ret
    exact ⟨p4.trans (q5.mono p4.size), rfl⟩

theorem orderPays_walk (a ra pa : Option Addr) (l : List Fct) (r : List Rgt) (p : List Int) (lc rc pc : Nat) (cut x y z : Int) (w : World) (h0 : l.length ≤ 9223372036854775807) (hl : l.length ≤ 140737488355328 → FactsAt w a l) (hcap : l.length ≤ lc)
  (hr0 : r.length ≤ 9223372036854775807) (hr : r.length ≤ 140737488355328 → RgtsAt w ra r) (hp0 : p.length ≤ 9223372036854775807) (hp : p.length ≤ 140737488355328 → Ints w pa p) :
  Calls Try.prog 13 #[.slice a l.length lc, .agg #[.slice ra r.length rc, .slice pa p.length pc, .int .i64 cut], .agg #[.int .i64 x, .int .i64 y, .int .i64 z]] w (BoolR w true) := by
  by_cases h : 200 < l.length
  · exact orderPays_long a ra pa l.length lc r.length rc p.length pc cut x y z w h0 hr0 hp0 h
  · by_cases h2 : 200 < r.length
    · exact orderPays_longR a ra pa l.length lc r.length rc p.length pc cut x y z w h0 hr0 hp0 (by omega) h2
    · by_cases h3 : 100 < p.length
      · exact orderPays_longP a ra pa l.length lc r.length rc p.length pc cut x y z w h0 hr0 hp0 (by omega) (by omega) h3
      · exact orderPays_main a ra pa l r p lc rc pc cut x y z w (hl (by omega)) hcap (hr (by omega)) (hp (by omega)) (by omega) (by omega) (by omega)

theorem orderBills_walk (a ra pa : Option Addr) (l : List Fct) (r : List Rgt) (p : List Int) (lc rc pc : Nat) (cut x y z u : Int) (w : World) (h0 : l.length ≤ 9223372036854775807) (hl : l.length ≤ 140737488355328 → FactsAt w a l) (hcap : l.length ≤ lc)
  (hr0 : r.length ≤ 9223372036854775807) (hr : r.length ≤ 140737488355328 → RgtsAt w ra r) (hp0 : p.length ≤ 9223372036854775807) (hp : p.length ≤ 140737488355328 → Ints w pa p) :
  Calls Try.prog 14 #[.slice a l.length lc, .agg #[.slice ra r.length rc, .slice pa p.length pc, .int .i64 cut], .agg #[.int .i64 x, .int .i64 y, .int .i64 z, .int .i64 u]] w (BoolR w true) := by
  by_cases h : 200 < l.length
  · exact orderBills_long a ra pa l.length lc r.length rc p.length pc cut x y z u w h0 hr0 hp0 h
  · by_cases h2 : 200 < r.length
    · exact orderBills_longR a ra pa l.length lc r.length rc p.length pc cut x y z u w h0 hr0 hp0 (by omega) h2
    · by_cases h3 : 100 < p.length
      · exact orderBills_longP a ra pa l.length lc r.length rc p.length pc cut x y z u w h0 hr0 hp0 (by omega) (by omega) h3
      · exact orderBills_main a ra pa l r p lc rc pc cut x y z u w (hl (by omega)) hcap (hr (by omega)) (hp (by omega)) (by omega) (by omega) (by omega) _ _ _ _ _ _ rfl rfl rfl bill_adds (bill_bd l r p cut x y z) (bill_bd l r p cut x z u)
end Go.Proofs.Ytcncnakpehnadaa
