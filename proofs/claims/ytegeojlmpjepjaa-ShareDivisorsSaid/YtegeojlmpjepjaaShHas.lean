/- The document's own HasDivisor of chapter 4. (Written by wip/tools/gen_shhas.py.) -/
import Derived.Test.YtegeojlmpjepjaaShDvM
set_option linter.unusedVariables false
namespace Go.Proofs.Ytegeojlmpjepjaa
open Go.RowKit

def DivOk (kind : Int) (os ms : List Int) (u : Int) (i : Nat) : Prop := 0 < stepV kind (at0 ms i) ∧ provM kind os ms (fracL (at0 os i * u).toNat (stepV kind (at0 ms i)).toNat).1 (fracL (at0 os i * u).toNat (stepV kind (at0 ms i)).toNat).2 = true

set_option maxRecDepth 100000 in
set_option maxHeartbeats 8000000 in
theorem rhas_half (oa ma : Option Addr) (os ms : List Int) (oc mc : Nat) (kind : Int) (w : World) (ho : Ints w oa os) (hm : Ints w ma ms) (hd : goodV os ms kind = true) (hkd : kind = 1) :
  Calls Try.prog 34 #[.slice oa os.length oc, .slice ma ms.length mc, .int .i64 kind] w (fun en w' => Below w.heap.size w w' ∧ en = .returned (.tuple #[.bool (hasDiv os ms kind), .int .i64 0])) := by
  have HV := hid (have_any oa ma os ms oc mc kind w ho hm)
  rw [show (okO os && okMs os ms && okK kind) = goodV os ms kind from rfl, hd] at HV
  obtain ⟨g1, g2, g3⟩ := goodV_ok hd
  have HI := hid (hasDiv_iff hd)
  rw [show unitV kind = 2 by unfold unitV; rw [if_pos hkd]] at HI
  have HDv := hid (fun (p q : Int) (w' : World) (hb : Below w.heap.size w w') (p1 : 1 ≤ p) (p2 : p ≤ 1000000000) (q1 : 1 ≤ q) (q2 : q ≤ 1000000000) => rdivides_any kind oa ma os ms oc mc p q w' (ho.below hb) (hm.below hb) g1 g2 g3 p1 p2 q1 q2)
  have hkf : (kind == 1) = true := by simp [hkd]
  obtain ⟨h1, h2, h3⟩ := okO_len g1
  obtain ⟨g4, g5⟩ := okMs_len g2
  have HOb := hid (fun k hk => allIn_at h3 k hk)
  have HMb := hid (fun k hk => allIn_at g5 k hk)
  have HK := hid g3
  have g4a : ms.length ≤ os.length := by omega
  have g4b : os.length ≤ ms.length := by omega
  have HO := hid ho
  have HM := hid hm
  clear g4 g1 g2 g3 h3 g5 ho hm hd hkd
  generalize hasDiv os ms kind = hv at *
  go_enter Try.func34, Try.ntmps34
  go_wp2_with fail
  refine HV.out.mono ?_
  rintro e w' ⟨rfl, rfl⟩
  rw [show err true = 0 from rfl]
  go_wp2
  go_loopw [10] (fun i wr => ∃ j : Nat, j ≤ os.length ∧ i = .int .i64 (j : Int) ∧ Hid (∀ i, i < j → ¬ DivOk kind os ms 2 i) ∧ Below w.heap.size w wr) (fun i _ => os.length - (intOf i).toNat)
  case atStart => exact ⟨0, Nat.zero_le _, rfl, fun k hk => by omega, Below.refl _ _⟩
  case round =>
    obtain ⟨j, hj, rfl, HP, hB⟩ := hrel
    by_cases hlt : j < os.length
    · rcases (HO.out).at_ with e | ⟨b, off, rfl, hc⟩
      · rw [e] at hlt; simp at hlt
      rcases (HM.out).at_ with e | ⟨bm, om, rfl, hcm⟩
      · rw [e, List.length_nil] at g4b; omega
      have d0 := hc j hlt
      have d1 := hcm j (by omega)
      have b0 := HOb.out j hlt
      have b1 := HMb.out j (by omega)
      have c0 : wr.cell? ⟨b, off + j, none⟩ = some (.int .i64 (os[j]?.getD 0)) := by rw [hB.cell (cell_lt d0)]; exact d0
      have c1 : wr.cell? ⟨bm, om + j, none⟩ = some (.int .i64 (ms[j]?.getD 0)) := by rw [hB.cell (cell_lt d1)]; exact d1
      have hj0 : (0 : Int) ≤ (j : Int) := Int.natCast_nonneg _
      have hj2 : (j : Int) < (os.length : Int) := by omega
      have hj3 : (j : Int) < (ms.length : Int) := by omega
      have HQ := hid (show ¬ DivOk kind os ms 2 j → ∀ i, i < j + 1 → ¬ DivOk kind os ms 2 i from fun h i hi => by
        by_cases e : i = j
        · subst e; exact h
        · exact HP.out i (by omega))
      have HN := hid (show DivOk kind os ms 2 j → hv = true from fun h => HI.out.2 ⟨j, hlt, h.1, h.2⟩)
      have HE := hid (show DivOk kind os ms 2 j = (0 < stepV kind (ms[j]?.getD 0) ∧ provM kind os ms (fracL (os[j]?.getD 0 * 2).toNat (stepV kind (ms[j]?.getD 0)).toNat).1 (fracL (os[j]?.getD 0 * 2).toNat (stepV kind (ms[j]?.getD 0)).toNat).2 = true) from rfl)
      rw [HE.out] at HQ HN
      clear hc hcm HE d0 d1
      generalize os[j]?.getD 0 = v at *
      generalize ms[j]?.getD 0 = k at *
      have HS := hid (fun w => rstep_any kind k w HK.out b1.1 (by omega))
      have st := stepV_bd (kind := kind) (k := k) b1.1 (by omega)
      generalize stepV kind k = s at *
      by_cases hs : 0 < s
      · obtain ⟨P, hP⟩ := Int.eq_ofNat_of_zero_le (by omega : 0 ≤ v * 2)
        obtain ⟨Q, rfl⟩ := Int.eq_ofNat_of_zero_le st.1
        rw [hP, Int.toNat_natCast, Int.toNat_natCast] at HQ HN
        have hfm := form_frac (P := P) (Q := Q) (by omega) (by omega) (by omega) (by omega)
        have HFr := hid (fun w => fraction_any P Q w (by omega) (by omega) (by omega))
        have HDj := hid (fun (w' : World) (hb : Below w.heap.size w w') => HDv.out (fracL P Q).1 (fracL P Q).2 w' hb hfm.2.1 hfm.2.2.1 hfm.2.2.2.1 hfm.2.2.2.2)
        have hP2 : v * 2 = (P : Int) := by omega
        unfold RatR at HFr
        clear hfm hP
        generalize fracL P Q = fq at *
        generalize provM kind os ms fq.1 fq.2 = pr at *
        rcases Bool.eq_false_or_eq_true pr with hp | hp
        · have HX := hid (HN.out ⟨hs, hp⟩)
          rw [hp] at HDj
          clear hp HN HQ
          go_wp2_with fail
          refine (HS.out _).mono ?_
          rintro e w' ⟨rfl, rfl⟩
          go_wp2_with fail
          refine (HFr.out _).mono ?_
          rintro e w1 ⟨z1, rfl⟩
          have p1 := hB.trans (z1.mono hB.size)
          go_wp2_with fail
          refine (HDj.out _ p1).mono ?_
          rintro e w2 ⟨z2, rfl⟩
          have p2 := p1.trans (z2.mono p1.size)
          go_wp2
          go_ret2
          exact ⟨p2, by rw [HX.out]; rfl⟩
        · have HX := hid (HQ.out (fun h => by rw [hp] at h; exact absurd h.2 (by simp)))
          rw [hp] at HDj
          clear hp HN HQ
          go_wp2_with fail
          refine (HS.out _).mono ?_
          rintro e w' ⟨rfl, rfl⟩
          go_wp2_with fail
          refine (HFr.out _).mono ?_
          rintro e w1 ⟨z1, rfl⟩
          have p1 := hB.trans (z1.mono hB.size)
          go_wp2_with fail
          refine (HDj.out _ p1).mono ?_
          rintro e w2 ⟨z2, rfl⟩
          have p2 := p1.trans (z2.mono p1.size)
          go_wp2
          go_roundw
          case rel => exact ⟨j + 1, by omega, by go_num, HX.out, p2⟩
          case measure => simp [intOf]; omega
      · have HX := hid (HQ.out (fun h => hs h.1))
        have hs' : s ≤ 0 := by omega
        have hsd : decide (0 < s) = false := by simp; omega
        clear hs HN HQ
        go_wp2_with fail
        refine (HS.out _).mono ?_
        rintro e w' ⟨rfl, rfl⟩
        go_wp2
        go_roundw
        case rel => exact ⟨j + 1, by omega, by go_num, HX.out, hB⟩
        case measure => simp [intOf]; omega
    · obtain rfl : j = os.length := by omega
      have HX := hid (show hv = false by
        rw [Bool.eq_false_iff]
        intro h
        obtain ⟨i, hi, a, b⟩ := HI.out.1 h
        exact HP.out i hi ⟨a, b⟩)
      go_wp2
      go_ret2
      exact ⟨hB, by rw [HX.out]; rfl⟩

set_option maxRecDepth 100000 in
set_option maxHeartbeats 8000000 in
theorem rhas_other (oa ma : Option Addr) (os ms : List Int) (oc mc : Nat) (kind : Int) (w : World) (ho : Ints w oa os) (hm : Ints w ma ms) (hd : goodV os ms kind = true) (hkd : ¬ kind = 1) :
  Calls Try.prog 34 #[.slice oa os.length oc, .slice ma ms.length mc, .int .i64 kind] w (fun en w' => Below w.heap.size w w' ∧ en = .returned (.tuple #[.bool (hasDiv os ms kind), .int .i64 0])) := by
  have HV := hid (have_any oa ma os ms oc mc kind w ho hm)
  rw [show (okO os && okMs os ms && okK kind) = goodV os ms kind from rfl, hd] at HV
  obtain ⟨g1, g2, g3⟩ := goodV_ok hd
  have HI := hid (hasDiv_iff hd)
  rw [show unitV kind = 1 by unfold unitV; rw [if_neg hkd]] at HI
  have HDv := hid (fun (p q : Int) (w' : World) (hb : Below w.heap.size w w') (p1 : 1 ≤ p) (p2 : p ≤ 1000000000) (q1 : 1 ≤ q) (q2 : q ≤ 1000000000) => rdivides_any kind oa ma os ms oc mc p q w' (ho.below hb) (hm.below hb) g1 g2 g3 p1 p2 q1 q2)
  have hkf : (kind == 1) = false := by simp [hkd]
  obtain ⟨h1, h2, h3⟩ := okO_len g1
  obtain ⟨g4, g5⟩ := okMs_len g2
  have HOb := hid (fun k hk => allIn_at h3 k hk)
  have HMb := hid (fun k hk => allIn_at g5 k hk)
  have HK := hid g3
  have g4a : ms.length ≤ os.length := by omega
  have g4b : os.length ≤ ms.length := by omega
  have HO := hid ho
  have HM := hid hm
  clear g4 g1 g2 g3 h3 g5 ho hm hd hkd
  generalize hasDiv os ms kind = hv at *
  go_enter Try.func34, Try.ntmps34
  go_wp2_with fail
  refine HV.out.mono ?_
  rintro e w' ⟨rfl, rfl⟩
  rw [show err true = 0 from rfl]
  go_wp2
  go_loopw [10] (fun i wr => ∃ j : Nat, j ≤ os.length ∧ i = .int .i64 (j : Int) ∧ Hid (∀ i, i < j → ¬ DivOk kind os ms 1 i) ∧ Below w.heap.size w wr) (fun i _ => os.length - (intOf i).toNat)
  case atStart => exact ⟨0, Nat.zero_le _, rfl, fun k hk => by omega, Below.refl _ _⟩
  case round =>
    obtain ⟨j, hj, rfl, HP, hB⟩ := hrel
    by_cases hlt : j < os.length
    · rcases (HO.out).at_ with e | ⟨b, off, rfl, hc⟩
      · rw [e] at hlt; simp at hlt
      rcases (HM.out).at_ with e | ⟨bm, om, rfl, hcm⟩
      · rw [e, List.length_nil] at g4b; omega
      have d0 := hc j hlt
      have d1 := hcm j (by omega)
      have b0 := HOb.out j hlt
      have b1 := HMb.out j (by omega)
      have c0 : wr.cell? ⟨b, off + j, none⟩ = some (.int .i64 (os[j]?.getD 0)) := by rw [hB.cell (cell_lt d0)]; exact d0
      have c1 : wr.cell? ⟨bm, om + j, none⟩ = some (.int .i64 (ms[j]?.getD 0)) := by rw [hB.cell (cell_lt d1)]; exact d1
      have hj0 : (0 : Int) ≤ (j : Int) := Int.natCast_nonneg _
      have hj2 : (j : Int) < (os.length : Int) := by omega
      have hj3 : (j : Int) < (ms.length : Int) := by omega
      have HQ := hid (show ¬ DivOk kind os ms 1 j → ∀ i, i < j + 1 → ¬ DivOk kind os ms 1 i from fun h i hi => by
        by_cases e : i = j
        · subst e; exact h
        · exact HP.out i (by omega))
      have HN := hid (show DivOk kind os ms 1 j → hv = true from fun h => HI.out.2 ⟨j, hlt, h.1, h.2⟩)
      have HE := hid (show DivOk kind os ms 1 j = (0 < stepV kind (ms[j]?.getD 0) ∧ provM kind os ms (fracL (os[j]?.getD 0 * 1).toNat (stepV kind (ms[j]?.getD 0)).toNat).1 (fracL (os[j]?.getD 0 * 1).toNat (stepV kind (ms[j]?.getD 0)).toNat).2 = true) from rfl)
      rw [HE.out] at HQ HN
      clear hc hcm HE d0 d1
      generalize os[j]?.getD 0 = v at *
      generalize ms[j]?.getD 0 = k at *
      have HS := hid (fun w => rstep_any kind k w HK.out b1.1 (by omega))
      have st := stepV_bd (kind := kind) (k := k) b1.1 (by omega)
      generalize stepV kind k = s at *
      by_cases hs : 0 < s
      · obtain ⟨P, hP⟩ := Int.eq_ofNat_of_zero_le (by omega : 0 ≤ v * 1)
        obtain ⟨Q, rfl⟩ := Int.eq_ofNat_of_zero_le st.1
        rw [hP, Int.toNat_natCast, Int.toNat_natCast] at HQ HN
        have hfm := form_frac (P := P) (Q := Q) (by omega) (by omega) (by omega) (by omega)
        have HFr := hid (fun w => fraction_any P Q w (by omega) (by omega) (by omega))
        have HDj := hid (fun (w' : World) (hb : Below w.heap.size w w') => HDv.out (fracL P Q).1 (fracL P Q).2 w' hb hfm.2.1 hfm.2.2.1 hfm.2.2.2.1 hfm.2.2.2.2)
        have hP2 : v = (P : Int) := by omega
        unfold RatR at HFr
        clear hfm hP
        generalize fracL P Q = fq at *
        generalize provM kind os ms fq.1 fq.2 = pr at *
        rcases Bool.eq_false_or_eq_true pr with hp | hp
        · have HX := hid (HN.out ⟨hs, hp⟩)
          rw [hp] at HDj
          clear hp HN HQ
          go_wp2_with fail
          refine (HS.out _).mono ?_
          rintro e w' ⟨rfl, rfl⟩
          go_wp2_with fail
          refine (HFr.out _).mono ?_
          rintro e w1 ⟨z1, rfl⟩
          have p1 := hB.trans (z1.mono hB.size)
          go_wp2_with fail
          refine (HDj.out _ p1).mono ?_
          rintro e w2 ⟨z2, rfl⟩
          have p2 := p1.trans (z2.mono p1.size)
          go_wp2
          go_ret2
          exact ⟨p2, by rw [HX.out]; rfl⟩
        · have HX := hid (HQ.out (fun h => by rw [hp] at h; exact absurd h.2 (by simp)))
          rw [hp] at HDj
          clear hp HN HQ
          go_wp2_with fail
          refine (HS.out _).mono ?_
          rintro e w' ⟨rfl, rfl⟩
          go_wp2_with fail
          refine (HFr.out _).mono ?_
          rintro e w1 ⟨z1, rfl⟩
          have p1 := hB.trans (z1.mono hB.size)
          go_wp2_with fail
          refine (HDj.out _ p1).mono ?_
          rintro e w2 ⟨z2, rfl⟩
          have p2 := p1.trans (z2.mono p1.size)
          go_wp2
          go_roundw
          case rel => exact ⟨j + 1, by omega, by go_num, HX.out, p2⟩
          case measure => simp [intOf]; omega
      · have HX := hid (HQ.out (fun h => hs h.1))
        have hs' : s ≤ 0 := by omega
        have hsd : decide (0 < s) = false := by simp; omega
        clear hs HN HQ
        go_wp2_with fail
        refine (HS.out _).mono ?_
        rintro e w' ⟨rfl, rfl⟩
        go_wp2
        go_roundw
        case rel => exact ⟨j + 1, by omega, by go_num, HX.out, hB⟩
        case measure => simp [intOf]; omega
    · obtain rfl : j = os.length := by omega
      have HX := hid (show hv = false by
        rw [Bool.eq_false_iff]
        intro h
        obtain ⟨i, hi, a, b⟩ := HI.out.1 h
        exact HP.out i hi ⟨a, b⟩)
      go_wp2
      go_ret2
      exact ⟨hB, by rw [HX.out]; rfl⟩


set_option maxRecDepth 100000 in
set_option maxHeartbeats 1000000 in
theorem rhas_any (oa ma : Option Addr) (os ms : List Int) (oc mc : Nat) (kind : Int) (w : World) (ho : Ints w oa os) (hm : Ints w ma ms) :
  Calls Try.prog 34 #[.slice oa os.length oc, .slice ma ms.length mc, .int .i64 kind] w (fun en w' => Below w.heap.size w w' ∧ en = .returned (.tuple #[.bool (hasDiv os ms kind), .int .i64 (err (goodV os ms kind))])) := by
  cases hd : goodV os ms kind with
  | true =>
    by_cases h : kind = 1
    · exact rhas_half oa ma os ms oc mc kind w ho hm hd h
    · exact rhas_other oa ma os ms oc mc kind w ho hm hd h
  | false =>
    have HV := hid (have_any oa ma os ms oc mc kind w ho hm)
    rw [show (okO os && okMs os ms && okK kind) = goodV os ms kind from rfl] at HV
    have HD := hid (show hasDiv os ms kind = false by rw [hasDiv, hd]; rfl)
    rw [hd] at HV
    clear hd ho hm
    go_enter Try.func34, Try.ntmps34
    go_wp2_with fail
    refine HV.out.mono ?_
    rintro e w' ⟨rfl, rfl⟩
    rw [show err false = 1 from rfl]
    go_wp2
    go_ret2
    exact ⟨Below.refl _ _, by rw [HD.out]; rfl⟩
end Go.Proofs.Ytegeojlmpjepjaa
