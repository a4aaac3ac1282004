/- The law ShareChecks: its walk. -/
import Derived.Test.YtnjaacmcdkiilaaShY
set_option linter.unusedVariables false
namespace Go.Proofs.Ytnjaacmcdkiilaa
open Go.RowKit

theorem prov_fair {u p q v a x b : Int} (hu : 1 ≤ u) (hp : 1 ≤ p) (hq : 1 ≤ q) (hv : 1 ≤ v) (hx : 1 ≤ x) (ha : 0 ≤ a) (hb : 0 ≤ b) (h1 : a * p ≤ v * u * q) (h2 : x * u * q ≤ b * p) : 0 ≤ szC v a x b := by
  have hxu : 0 < x * u * q := Int.mul_pos (Int.mul_pos (by omega) (by omega)) (by omega)
  have hvu : 0 ≤ v * u * q := Int.mul_nonneg (Int.mul_nonneg (by omega) (by omega)) (by omega)
  have hb0 : b ≠ 0 := fun e => by rw [e, Int.zero_mul] at h2; omega
  unfold szC
  rw [if_neg (by omega), cmpI_ge]
  have h3 := Int.mul_le_mul h2 h1 (Int.mul_nonneg ha (by omega)) (by omega)
  have e1 : x * u * q * (a * p) = x * a * (u * q * p) := by ac_rfl
  have e2 : b * p * (v * u * q) = v * b * (u * q * p) := by ac_rfl
  rw [e1, e2] at h3
  exact Int.le_of_mul_le_mul_right h3 (Int.mul_pos (Int.mul_pos (by omega) (by omega)) (by omega))
theorem check_fair {os ms : List Int} {kind p q : Int} (h : checkE os ms kind p q = 0) : goodV os ms kind = true ∧ fairL os ms kind = true := by
  unfold checkE at h
  split at h
  · omega
  · split at h
    · omega
    · split at h
      · omega
      · rename_i h1 h2 h3
        simp only [Bool.not_eq_false] at h1 h2 h3
        refine ⟨h1, ?_⟩
        obtain ⟨g1, g2, g3⟩ := goodV_ok h1
        have hpq : inW p 1 1000000000 = true ∧ inW q 1 1000000000 = true := by
          simp only [formB, Bool.and_eq_true] at h2; exact h2.1
        have hp : 1 ≤ p ∧ p ≤ 1000000000 := by simpa [inW] using hpq.1
        have hq : 1 ≤ q ∧ q ≤ 1000000000 := by simpa [inW] using hpq.2
        rw [fairL, h1, Bool.true_and]
        refine (fair_iff g1 g2).2 fun i k hi hk hne hp' => ?_
        have hc := heldC_good (kind := kind) g1 g2 hi hp'
        have hn := nextC_good (kind := kind) g1 g2 hk
        have pa := (prov_iff.1 h3 i hi).1 hp'
        have pb := (prov_iff.1 h3 k hk).2
        simp only [provA, provB, decide_eq_true_eq] at pa pb
        exact prov_fair (unitV_bd kind).1 hp.1 hq.1 hc.2.1.1 hn.2.1.1 hc.2.2.1 hn.2.2.1 pa pb

set_option maxRecDepth 100000 in
set_option maxHeartbeats 8000000 in
theorem shareChecks_walk (oa : Option Addr) (os : List Int) (oc : Nat) (ma : Option Addr) (ms : List Int) (mc : Nat) (K p q : Int) (w : World) (h1 : os.length ≤ 9223372036854775807) (h2 : ms.length ≤ 9223372036854775807) (hT : os.length ≤ 140737488355328 → Ints w oa os) (hU : ms.length ≤ 140737488355328 → Ints w ma ms) :
  Calls Try.prog 5 #[.slice oa os.length oc, .slice ma ms.length mc, .agg #[.int .i64 K, .int .i64 p, .int .i64 q]] w (BoolR w true) := by
  have HL := hid (fun w => long4_any oa os oc w h1)
  have HL2 := hid (fun w => long4_any ma ms mc w h2)
  have HC := hid (fun (w' : World) (hb : Below w.heap.size w w') (ho : Ints w oa os) (hm : Ints w ma ms) => check4_any oa ma os ms oc mc K p q w' (ho.below hb) (hm.below hb))
  have HCr := hid (fun (w' : World) (hb : Below w.heap.size w w') (ho : Ints w oa os) (hm : Ints w ma ms) => rcheck4_any oa ma os ms oc mc K p q w' (ho.below hb) (hm.below hb))
  have HF := hid (fun (w' : World) (hb : Below w.heap.size w w') (ho : Ints w oa os) (hm : Ints w ma ms) => isFair_any oa ma os ms oc mc K w' (ho.below hb) (hm.below hb))
  have HX := hid (fun h => check_fair (os := os) (ms := ms) (kind := K) (p := p) (q := q) h)
  have HOk := hid (fun (h : os.length ≤ 60) => hT (by omega))
  have HMk := hid (fun (h : ms.length ≤ 60) => hU (by omega))
  clear hT hU
  have hB0 := (((Below.refl w.heap.size w).alloc (Nat.le_refl _) (.cells #[.int .i64 K, .int .i64 p, .int .i64 q] 41)).alloc (by simp) (.cells #[.int .i64 p, .int .i64 q] 39)).drew
  have hc0 : (((w.alloc (.cells #[.int .i64 K, .int .i64 p, .int .i64 q] 41)).alloc (.cells #[.int .i64 p, .int .i64 q] 39)).drew).cell? ⟨w.heap.size + 1, 0, none⟩ = some (.int .i64 p) := by go_simp
  have hc1 : (((w.alloc (.cells #[.int .i64 K, .int .i64 p, .int .i64 q] 41)).alloc (.cells #[.int .i64 p, .int .i64 q] 39)).drew).cell? ⟨w.heap.size + 1, 1, none⟩ = some (.int .i64 q) := by go_simp
  have HB0 := hid hB0
  have HC0 := hid hc0
  have HC1 := hid hc1
  clear hB0 hc0 hc1
  go_enter Try.func5, Try.ntmps5
  go_wp2
  go_region
  generalize ((w.alloc (.cells #[.int .i64 K, .int .i64 p, .int .i64 q] 41)).alloc (.cells #[.int .i64 p, .int .i64 q] 39)).drew = wb at *
  have hB0 := HB0.out
  have hc0 := HC0.out
  have hc1 := HC1.out
  clear HB0 HC0 HC1
  cases hl : longI os with
  | true =>
    rw [hl] at HL
    clear hl
    go_wp2_with fail
    refine (HL.out _).mono ?_
    rintro e w' ⟨rfl, rfl⟩
    go_wp2_with fail
    refine (known4_any _).mono ?_
    rintro e w2 ⟨q2, rfl⟩
    go_wp2
    go_ret
    exact ⟨hB0.trans (q2.mono hB0.size), rfl⟩
  | false =>
    rw [hl] at HL
    have ho := HOk.out (by simpa [longI] using hl)
    clear hl
    cases hl2 : longI ms with
    | true =>
      rw [hl2] at HL2
      clear hl2 ho
      go_wp2_with fail
      refine (HL.out _).mono ?_
      rintro e w' ⟨rfl, rfl⟩
      go_wp2_with fail
      refine (HL2.out _).mono ?_
      rintro e w' ⟨rfl, rfl⟩
      go_wp2_with fail
      refine (known4_any _).mono ?_
      rintro e w2 ⟨q2, rfl⟩
      go_wp2
      go_ret
      exact ⟨hB0.trans (q2.mono hB0.size), rfl⟩
    | false =>
      rw [hl2] at HL2
      have hm := HMk.out (by simpa [longI] using hl2)
      have HC := hid (fun w' hb => HC.out w' hb ho hm)
      have HCr := hid (fun w' hb => HCr.out w' hb ho hm)
      have HF := hid (fun w' hb => HF.out w' hb ho hm)
      clear hl2 ho hm HOk HMk
      generalize checkE os ms K p q = ck at *
      generalize fairL os ms K = fr at *
      generalize goodV os ms K = gd at *
      have hck : (ck != ck) = false := by simp
      go_wp2_with fail
      refine (HL.out _).mono ?_
      rintro e w' ⟨rfl, rfl⟩
      go_wp2_with fail
      refine (HL2.out _).mono ?_
      rintro e w' ⟨rfl, rfl⟩
      go_wp2_with fail
      refine (HC.out _ hB0).mono ?_
      rintro e w1 ⟨z1, rfl⟩
      have b1 := hB0.trans (z1.mono hB0.size)
      rw [← z1.cell (cell_lt hc0)] at hc0
      rw [← z1.cell (cell_lt hc1)] at hc1
      clear z1
      go_wp2_with fail
      refine (HCr.out _ b1).mono ?_
      rintro e w2 ⟨z2, rfl⟩
      have b2 := b1.trans (z2.mono b1.size)
      clear z2 b1 hc0 hc1 hB0
      go_wp2_with fail
      refine (HF.out _ b2).mono ?_
      rintro e w3 ⟨z3, rfl⟩
      have b3 := b2.trans (z3.mono b2.size)
      clear z3 b2 HC HCr HF
      by_cases hc : ck = 0
      · obtain ⟨x1, x2⟩ := HX.out hc
        subst hc x1 x2
        rw [show err true = 0 from rfl]
        go_wp2_with fail
        refine (known4_any _).mono ?_
        rintro e w6 ⟨q6, rfl⟩
        go_wp2
        go_ret
        exact ⟨b3.trans (q6.mono b3.size), rfl⟩
      · have hne : (ck != 0) = true := by simp [hc]
        clear hc HX
        go_wp2_with fail
        refine (known4_any _).mono ?_
        rintro e w6 ⟨q6, rfl⟩
        go_wp2
        go_ret
        exact ⟨b3.trans (q6.mono b3.size), rfl⟩
end Go.Proofs.Ytnjaacmcdkiilaa
