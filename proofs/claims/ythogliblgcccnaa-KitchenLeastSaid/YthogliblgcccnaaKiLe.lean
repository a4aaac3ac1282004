/- The document's Least: chapter 7. -/
import Derived.Test.YthogliblgcccnaaKiLst
import Derived.Test.YthogliblgcccnaaKiG
import Derived.Test.YthogliblgcccnaaOrdW
set_option linter.unusedVariables false
namespace Go.Proofs.Ythogliblgcccnaa
open Go.RowKit

theorem ord_ioz (n : Nat) : ioz n = iotaZ n := rfl
theorem ordz_ord (n : Nat) (o : List Int) : o ∈ ordz n ↔ IsOrd o n := by rw [ordz_mem, ord_ioz]; exact Iff.rfl
structure LeTo (l : List Bt) (all : List (List Int)) (k : Nat) (m : Int) : Prop where
  has : ∃ f ∈ all, timeO l f = m
  low : ∀ j, j < k → m ≤ timeO l (rZ all j)
theorem LeTo.least {l : List Bt} {m : Int} (h : LeTo l (ordz l.length) (ordz l.length).length m) : IsLeast l m := by
  refine ⟨?_, fun q hq => ?_⟩
  · obtain ⟨f, hf, e⟩ := h.has
    exact ⟨f, (ordz_ord _ f).1 hf, e⟩
  · obtain ⟨i, hi, rfl⟩ := mem_rZ ((ordz_ord _ q).2 hq)
    exact h.low i hi
theorem OrdT.intsK {w : World} {base : Nat} {v : Value} {T : List (List Int)} (h : OrdT w base v T) (i : Nat) (hi : i < T.length) (hl : (rZ T i).length ≤ 1000) (hb : ∀ x ∈ rZ T i, -9223372036854775808 ≤ x ∧ x ≤ 9223372036854775807) :
    ∃ g c A d, v = .slice (some ⟨g, 0, none⟩) T.length c ∧ w.cell? ⟨g, i, none⟩ = some (.slice A (rZ T i).length d) ∧ Ints w A (rZ T i) := by
  obtain ⟨g, c, A, d, hv, hc, ho⟩ := h.row i hi
  obtain ⟨a, cap, e, hI⟩ := ho.ints (by omega) hb
  simp only [Value.slice.injEq, true_and] at e
  obtain ⟨rfl, _⟩ := e
  exact ⟨g, c, A, d, hv, hc, hI⟩
theorem ord_bd {o : List Int} {n : Nat} (h : IsOrd o n) (hn : n ≤ 7) : o.length ≤ 1000 ∧ ∀ x ∈ o, -9223372036854775808 ≤ x ∧ x ≤ 9223372036854775807 := by
  refine ⟨by rw [h.len]; omega, fun x hx => ?_⟩
  have := h.mem hx
  omega
set_option maxRecDepth 100000 in
set_option maxHeartbeats 4000000 in
theorem krLeast_ok (a : Option Addr) (l : List Bt) (cap : Nat) (w : World) (h : Bts w a l) (h0 : valE l = 0) : Calls Try.prog 30 #[.slice a l.length cap] w (LeastQ w l) := by
  have HV := hid (krValidate_any a l cap w h)
  have hl := valE_ok h0
  have hl7 := hl.len
  rw [h0] at HV
  have HTo := hid (fun (W : World) => rOrders_any l.length W hl7)
  have HLn := hid (fun (A : Option Addr) (o : List Int) (c : Nat) (W : World) (hb : Below w.heap.size w W) (hI : Ints W A o) (ho : IsOrd o l.length) => krLongest_any a A l o cap c W (h.below hb) hI hl ho)
  have hTl := ordz_card l.length
  have hfz := fz_le l.length hl7
  have hp0 := fz_pos l.length
  have HSh := hid (fun (m : Int) hm => LeTo.least (l := l) (m := m) hm)
  have HMem := hid (ordz_ord l.length)
  obtain ⟨all, hall⟩ : ∃ all, ordz l.length = all := ⟨_, rfl⟩
  have HAll := hid hall
  rw [hall] at hTl HSh HMem
  obtain ⟨L, hL⟩ : ∃ L, all.length = L := ⟨_, rfl⟩
  have HL := hid hL
  rw [hL] at hTl HSh
  have hL5 : L ≤ 5040 := by omega
  have hp : 1 ≤ L := by omega
  have HT7 := hid hl7
  clear h h0 hl hTl hfz hall hL hp0
  go_enter Try.func30, Try.ntmps30
  go_wp2_with fail
  refine HV.out.mono ?_
  rintro e w1 ⟨rfl, rfl⟩
  clear HV
  go_wp2_with fail
  refine (HTo.out _).mono ?_
  rintro e w2 ⟨hb2, A, c2, rfl, hO⟩
  rw [HAll.out, HL.out] at hO ⊢
  have HB2 := hid hb2
  have HO := hid hO
  clear hb2 hO HTo
  have HRow := hid (fun (i : Nat) (hi : i < L) (W : World) (hb : Below w2.heap.size w2 W) => (show IsOrd (rZ all i) l.length ∧ ∃ g A2 d, A = some ⟨g, 0, none⟩ ∧ W.cell? ⟨g, i, none⟩ = some (.slice A2 (rZ all i).length d) ∧ Ints W A2 (rZ all i) from by
    have hT := (HMem.out (rZ all i)).1 (rZ_mem (by rw [HL.out]; exact hi))
    obtain ⟨b1, b2⟩ := ord_bd hT HT7.out
    obtain ⟨g, c, A2, d, hv, hc, hI⟩ := (HO.out.below hb).intsK i (by rw [HL.out]; exact hi) b1 b2
    simp only [Value.slice.injEq] at hv
    exact ⟨hT, g, A2, d, hv.1, hc, hI⟩))
  obtain ⟨hT0, g, A0, d0, hA, c0, hI0⟩ := HRow.out 0 (by omega) w2 (Below.refl _ _)
  subst hA
  have HC0 := hid (HLn.out A0 _ d0 w2 HB2.out hI0 hT0)
  have HL0 := hid (show LeTo l all 1 (timeO l (rZ all 0)) from ⟨⟨_, rZ_mem (by rw [HL.out]; omega), rfl⟩, fun j hj => by rw [show j = 0 by omega]; exact Int.le_refl _⟩)
  obtain ⟨m0, hm0⟩ : ∃ m0, timeO l (rZ all 0) = m0 := ⟨_, rfl⟩
  obtain ⟨k0, hk0⟩ : ∃ k0, ((critF (seqO l (rZ all 0)) : Nat) : Int) = k0 := ⟨_, rfl⟩
  rw [hm0] at HC0 HL0
  rw [hk0] at HC0
  have q0 : (0 : Int) < (L : Int) := by omega
  obtain ⟨n0, hn0⟩ : ∃ n0, (rZ all 0).length = n0 := ⟨_, rfl⟩
  rw [hn0] at HC0 c0
  clear hm0 hn0 hI0 hT0 hk0
  go_wp2_with fail
  refine HC0.out.mono ?_
  rintro e w3 ⟨rfl, rfl⟩
  clear HC0 c0
  go_wp2_with fail
  go_loopw [6, 8] (fun u v wr => ∃ (m : Int) (i : Nat), 1 ≤ i ∧ i ≤ L ∧ u = .int .i64 m ∧ v = .int .i64 (i : Int) ∧ Hid (LeTo l all i m) ∧ Hid (wr = w2)) (fun _ v _ => L - (intOf v).toNat)
  case atStart => exact ⟨m0, 1, Nat.le_refl _, hp, rfl, rfl, HL0, rfl⟩
  case round =>
    obtain ⟨m, i, h1, hi, rfl, rfl, HLe, HX⟩ := hrel
    obtain rfl := HX.out
    clear HL0 HX
    by_cases hlt : i < L
    · obtain ⟨hT0, g', A2, d2, hA, c0, hI0⟩ := HRow.out i hlt wr (Below.refl _ _)
      simp only [Option.some.injEq, Addr.mk.injEq, and_true] at hA
      subst hA
      have HC := hid (HLn.out A2 _ d2 wr HB2.out hI0 hT0)
      have HMm := hid (rZ_mem (T := all) (i := i) (by rw [HL.out]; exact hlt))
      obtain ⟨x, hx⟩ : ∃ x, timeO l (rZ all i) = x := ⟨_, rfl⟩
      obtain ⟨k1, hk1⟩ : ∃ k1, ((critF (seqO l (rZ all i)) : Nat) : Int) = k1 := ⟨_, rfl⟩
      have HXx := hid hx
      rw [hx, hk1] at HC
      obtain ⟨n0, hn0⟩ : ∃ n0, (rZ all i).length = n0 := ⟨_, rfl⟩
      rw [hn0] at HC c0
      have q1 : (i : Int) < (L : Int) := by omega
      clear hx hn0 hI0 hT0 hk1
      by_cases hxm : x < m
      · have HLe2 := hid (show LeTo l all (i + 1) x from ⟨⟨_, HMm.out, HXx.out⟩, fun j hj => by
          rcases Nat.lt_or_ge j i with h | h
          · have := HLe.out.low j h; omega
          · rw [show j = i by omega, HXx.out]; exact Int.le_refl _⟩)
        have hmin : min m x = x := Int.min_eq_right (by omega)
        as_aux_lemma =>
          go_wp2_with fail
          refine HC.out.mono ?_
          rintro e w4 ⟨rfl, rfl⟩
          clear HC c0
          go_wp2_with fail
          go_roundw
          case rel => exact ⟨x, i + 1, by omega, by omega, by first | rfl | rw [hmin], by go_num, HLe2, by first | exact hid trivial | exact hid rfl⟩
          case measure => simp [intOf]; omega
      · have HLe2 := hid (show LeTo l all (i + 1) m from ⟨HLe.out.has, fun j hj => by
          rcases Nat.lt_or_ge j i with h | h
          · exact HLe.out.low j h
          · rw [show j = i by omega, HXx.out]; omega⟩)
        have hmin : min m x = m := Int.min_eq_left (by omega)
        as_aux_lemma =>
          go_wp2_with fail
          refine HC.out.mono ?_
          rintro e w4 ⟨rfl, rfl⟩
          clear HC c0
          go_wp2_with fail
          go_roundw
          case rel => exact ⟨m, i + 1, by omega, by omega, by first | rfl | rw [hmin], by go_num, HLe2, by first | exact hid trivial | exact hid rfl⟩
          case measure => simp [intOf]; omega
    · obtain rfl : i = L := by omega
      as_aux_lemma =>
        go_wp2
        go_ret2
        exact ⟨HB2.out, m, HSh.out m HLe.out, rfl⟩
set_option maxRecDepth 100000 in
set_option maxHeartbeats 4000000 in
theorem krLeast_bad (a : Option Addr) (l : List Bt) (cap : Nat) (w : World) (h : Bts w a l) (h0 : ¬ valE l = 0) : Calls Try.prog 30 #[.slice a l.length cap] w (PairK w (0, valE l)) := by
  have HV := hid (krValidate_any a l cap w h)
  have h1 : (valE l != 0) = true := by simp [h0]
  have h2 : (valE l == 0) = false := by simp [h0]
  clear h h0
  generalize valE l = e0 at *
  go_enter Try.func30, Try.ntmps30
  go_wp2_with fail
  refine HV.out.mono ?_
  rintro e w1 ⟨rfl, rfl⟩
  go_wp2
  go_ret2
  exact ⟨Below.refl _ _, rfl⟩
end Go.Proofs.Ythogliblgcccnaa
