/- Divisor of package share. -/
import Derived.Test.YtnjaacmcdkiilaaShW
set_option linter.unusedVariables false
namespace Go.Proofs.Ytnjaacmcdkiilaa
open Go.RowKit

/-- The greatest claim to a next meal. -/
def topC (kind : Int) (os ms : List Int) : ClaimL := lastMax sizeL (nextL kind os ms)
def hasDiv (os ms : List Int) (kind : Int) : Bool := goodV os ms kind && (decide ((topC kind os ms).2.2 ≠ 0) && fairM os ms kind)
def divsL (os ms : List Int) (kind : Int) : Int × Int := if hasDiv os ms kind then fracL ((topC kind os ms).2.1 * unitV kind).toNat ((topC kind os ms).2.2).toNat else (0, 0)
theorem topC_good {kind : Int} {os ms : List Int} (g1 : okO os = true) (g2 : okMs os ms = true) : GoodC (topC kind os ms) :=
  nextTo_good g1 g2 _ (Nat.le_refl _) _ (lastMax_mem (l := nextL kind os ms) (by rw [nextL_len]; exact (okO_len g1).1))
def DivR (w : World) (p : Int × Int) (b : Bool) (e : Int) (en : Ending) (w' : World) : Prop := Below w.heap.size w w' ∧ en = .returned (.tuple #[.agg #[.int .i64 p.1, .int .i64 p.2], .bool b, .int .i64 e])

set_option maxRecDepth 100000 in
set_option maxHeartbeats 8000000 in
theorem divisor_any (oa ma : Option Addr) (os ms : List Int) (oc mc : Nat) (kind : Int) (w : World) (ho : Ints w oa os) (hm : Ints w ma ms) :
  Calls Try.prog 30 #[.slice oa os.length oc, .slice ma ms.length mc, .int .i64 kind] w (DivR w (divsL os ms kind) (hasDiv os ms kind) (err (goodV os ms kind))) := by
  have hB0 := (Below.refl w.heap.size w).alloc (Nat.le_refl _) (.cells #[.int .i64 0, .int .i64 0] 39)
  have HV := hid (fun (w' : World) (hb : Below w.heap.size w w') => checkDivided_any oa ma os ms oc mc kind w' (ho.below hb) (hm.below hb))
  rw [show (okO os && okMs os ms && okK kind) = goodV os ms kind from rfl] at HV
  have HVar := hid (Var2.made w)
  cases hd : goodV os ms kind with
  | false =>
    have HD := hid (show hasDiv os ms kind = false by rw [hasDiv, hd]; rfl)
    have HD2 := hid (show divsL os ms kind = (0, 0) by rw [divsL, HD.out]; rfl)
    rw [hd] at HV
    clear hd ho hm
    go_enter Try.func30, Try.ntmps30
    go_wp2_with fail
    refine (HV.out _ hB0).mono ?_
    rintro e w' ⟨rfl, rfl⟩
    rw [show err false = 1 from rfl]
    go_wp2
    exact bodyPost_ret (v := .tuple #[.agg #[.int .i64 0, .int .i64 0], .bool false, .int .i64 1]) (by simp [results, Try.results30, go_sem]) rfl ⟨by repeat (first | exact hB0 | exact Below.refl _ _ | refine Below.alloc ?_ (by simp <;> omega) _ | refine Below.setCell ?_ (by simp <;> omega) _), by rw [HD.out, HD2.out]; rfl⟩
  | true =>
    obtain ⟨g1, g2, g3⟩ := goodV_ok hd
    obtain ⟨K, hs⟩ := stepsV_form2 kind
    have hub := unitV_bd kind
    have HSt := hid (fun w' => stepsOf_any kind w' g3)
    have HNx := hid (fun (w' : World) (hb : Below w.heap.size w w') => next_any kind oa ma os ms oc mc w' (ho.below hb) (hm.below hb) g1 g2 g3)
    have HFa := hid (fun (w' : World) (hb : Below w.heap.size w w') => areFair_any kind oa ma os ms oc mc w' (ho.below hb) (hm.below hb) g1 g2 g3)
    rw [show nextTo kind os ms os.length = nextL kind os ms from rfl] at HNx
    have hgn : ∀ c ∈ nextL kind os ms, GoodC c := nextTo_good g1 g2 _ (Nat.le_refl _)
    have hnl : (nextL kind os ms).length = os.length := nextTo_len _ _ _ _
    have h1 := (okO_len g1).1
    have h8 := (okO_len g1).2.1
    have HMx := hid (fun (A : Option Addr) (c : Nat) (w' : World) (h : ClaimsAt w' A (nextL kind os ms)) => max_size A (nextL kind os ms) c w' h hgn (by omega))
    rw [show maxTo sizeL (nextL kind os ms) ((nextL kind os ms).length - 1) = topC kind os ms from rfl, hnl] at HMx
    have hgt := topC_good (kind := kind) g1 g2
    have HH := hid (show hasDiv os ms kind = (decide ((topC kind os ms).2.2 ≠ 0) && fairM os ms kind) by rw [hasDiv, hd]; rfl)
    have HD := hid (show divsL os ms kind = if hasDiv os ms kind then fracL ((topC kind os ms).2.1 * unitV kind).toNat ((topC kind os ms).2.2).toNat else (0, 0) from rfl)
    rw [hd] at HV
    rw [hs] at HSt HNx HFa
    have HLn := hid hnl
    clear hd ho hm g1 g2 g3 hs hgn hnl
    generalize nextL kind os ms = ln at *
    generalize topC kind os ms = tc at *
    obtain ⟨s, v, t⟩ := tc
    obtain ⟨_, ⟨v1, v2⟩, t1, t2⟩ := hgt
    dsimp only at v1 v2 t1 t2 HH HD
    generalize fairM os ms kind = fr at *
    generalize hasDiv os ms kind = hv at *
    generalize divsL os ms kind = dv at *
    generalize unitV kind = u at *
    have hvu := mul_bd (by omega : 0 ≤ v) v2 (by omega : 0 ≤ u) hub.2
    go_enter Try.func30, Try.ntmps30
    go_wp2_with fail
    refine (HV.out _ hB0).mono ?_
    rintro e w' ⟨rfl, rfl⟩
    rw [show err true = 0 from rfl]
    go_wp2_with fail
    refine (HSt.out _).mono ?_
    rintro e w1 ⟨z1, rfl⟩
    have p1 := hB0.trans (z1.mono (by simp))
    have HVar1 := hid (HVar.out.keep z1)
    have m1 := (Below.refl w1.heap.size w1).alloc (Nat.le_refl _) (.cells #[.func (.func K) #[] #[], .int .i64 u] 70)
    have HVar2 := hid (HVar1.out.keep m1)
    have p2 := p1.trans (m1.mono p1.size)
    have hw1 : w.heap.size < w1.heap.size := cell_lt HVar1.out.1
    have c0 : (w1.alloc (.cells #[.func (.func K) #[] #[], .int .i64 u] 70)).cell? ⟨w1.heap.size, 0, none⟩ = some (.func (.func K) #[] #[]) := by go_simp
    have c1 : (w1.alloc (.cells #[.func (.func K) #[] #[], .int .i64 u] 70)).cell? ⟨w1.heap.size, 1, none⟩ = some (.int .i64 u) := by go_simp
    clear z1 m1 p1 HVar HVar1 hB0
    go_wp2_with fail
    refine (HNx.out _ p2).mono ?_
    rintro e w3 ⟨z3, A, c, rfl, hA⟩
    have p3 := p2.trans (z3.mono p2.size)
    have HVar3 := hid (HVar2.out.keep z3)
    rw [← z3.cell (by simp)] at c0 c1
    have hw3 : w1.heap.size < w3.heap.size := cell_lt c0
    rw [HLn.out]
    clear z3 p2 HVar2
    go_wp2_with fail
    refine (HMx.out _ _ _ hA).mono ?_
    rintro e w4 ⟨z4, rfl⟩
    dsimp only
    have HVarW := hid (HVar3.out.keep z4)
    have p4w := p3.trans (z4.mono p3.size)
    have m4 := z4.alloc z4.size (.cells #[.int .i64 s, .int .i64 v, .int .i64 t] 76)
    have p4 := p3.trans (m4.mono p3.size)
    have HVar4 := hid (HVar3.out.keep m4)
    rw [← m4.cell (cell_lt c0)] at c0
    rw [← m4.cell (cell_lt c1)] at c1
    have d0 : (w4.alloc (.cells #[.int .i64 s, .int .i64 v, .int .i64 t] 76)).cell? ⟨w4.heap.size, 0, none⟩ = some (.int .i64 s) := by go_simp
    have d1 : (w4.alloc (.cells #[.int .i64 s, .int .i64 v, .int .i64 t] 76)).cell? ⟨w4.heap.size, 1, none⟩ = some (.int .i64 v) := by go_simp
    have d2 : (w4.alloc (.cells #[.int .i64 s, .int .i64 v, .int .i64 t] 76)).cell? ⟨w4.heap.size, 2, none⟩ = some (.int .i64 t) := by go_simp
    have hw4 : w1.heap.size < w4.heap.size := by have := z4.size; omega
    have hww : w.heap.size < w4.heap.size := by omega
    clear z4 m4 p3 HVar3 hA hw3
    obtain ⟨x0, x1, y0, y1⟩ := HVarW.out
    by_cases ht : t = 0
    · have HX := hid (show hv = false ∧ dv = (0, 0) from by
        have : hv = false := by rw [HH.out, ht]; simp
        exact ⟨this, by rw [HD.out, this]; rfl⟩)
      obtain ⟨T0', T1'⟩ := set2_cells w4 w.heap.size (.int .i64 0) (.int .i64 0) _ _ x0 x1
      have hsa := (Below.refl ((w4.setCell ⟨w.heap.size, 0, none⟩ (.int .i64 0)).setCell ⟨w.heap.size, 1, none⟩ (.int .i64 0)).heap.size ((w4.setCell ⟨w.heap.size, 0, none⟩ (.int .i64 0)).setCell ⟨w.heap.size, 1, none⟩ (.int .i64 0))).alloc (Nat.le_refl _) (.cells #[.int .i64 s, .int .i64 v, .int .i64 t] 76)
      have T0 := (hsa.cell (p := ⟨w.heap.size, 0, none⟩) (by simpa using hww)).trans T0'
      have T1 := (hsa.cell (p := ⟨w.heap.size, 1, none⟩) (by simpa using hww)).trans T1'
      have HBz := hid (((p4w.setCell (p := ⟨w.heap.size, 0, none⟩) (Nat.le_refl _) (.int .i64 0)).setCell (p := ⟨w.heap.size, 1, none⟩) (Nat.le_refl _) (.int .i64 0)).alloc (by simp; omega) (.cells #[.int .i64 s, .int .i64 v, .int .i64 t] 76))
      have ht' : (t == 0) = true := by simp [ht]
      clear ht
      go_wp2
      exact bodyPost_ret (v := .tuple #[.agg #[.int .i64 0, .int .i64 0], .bool false, .int .i64 0]) (by simp [results, Try.results30, go_sem, T0, T1]) rfl ⟨HBz.out, by rw [HX.out.1, HX.out.2]; rfl⟩
    · have ht' : (t == 0) = false := by simp [ht]
      have HT := hid (show decide (t ≠ 0) = true by simp [ht])
      have htp : 1 ≤ t := by omega
      clear ht
      go_wp2_with fail
      refine (HFa.out _ p4).mono ?_
      rintro e w5 ⟨z5, rfl⟩
      have p5 := p4.trans (z5.mono p4.size)
      have HVar5 := hid (HVar4.out.keep z5)
      rw [← z5.cell (cell_lt c0)] at c0
      rw [← z5.cell (cell_lt c1)] at c1
      rw [← z5.cell (cell_lt d0)] at d0
      rw [← z5.cell (cell_lt d1)] at d1
      rw [← z5.cell (cell_lt d2)] at d2
      clear x0 x1 y0 y1 z5 p4 HVar4
      obtain ⟨x0, x1, y0, y1⟩ := HVar5.out
      rcases Bool.eq_false_or_eq_true fr with hf | hf
      · have HX := hid (show hv = true ∧ dv = fracL (v * u).toNat t.toNat from by
          have : hv = true := by rw [HH.out, HT.out, hf]; rfl
          exact ⟨this, by rw [HD.out, if_pos this]⟩)
        obtain ⟨P, hP⟩ := Int.eq_ofNat_of_zero_le hvu.1
        obtain ⟨Q, rfl⟩ := Int.eq_ofNat_of_zero_le t1
        have HLo := hid (fun w => lowest_any P Q w (by omega) (by omega) (by omega))
        rw [← hP] at HLo
        rw [hP, Int.toNat_natCast, Int.toNat_natCast] at HX
        generalize fracL P Q = fq at *
        have hP' := hid hP
        clear hP
        rw [hf]
        clear hf
        go_wp2_with fail
        refine (HLo.out _).mono ?_
        rintro e w6 ⟨z6, rfl⟩
        have p6 := p5.trans (z6.mono p5.size)
        have HVar6 := hid (HVar5.out.keep z6)
        clear x0 x1 y0 y1
        obtain ⟨x0, x1, y0, y1⟩ := HVar6.out
        obtain ⟨T0, T1⟩ := set2_cells w6 w.heap.size (.int .i64 fq.1) (.int .i64 fq.2) _ _ x0 x1
        have HBz := hid ((p6.setCell (p := ⟨w.heap.size, 0, none⟩) (Nat.le_refl _) (.int .i64 fq.1)).setCell (p := ⟨w.heap.size, 1, none⟩) (Nat.le_refl _) (.int .i64 fq.2))
        go_wp2
        exact bodyPost_ret (v := .tuple #[.agg #[.int .i64 fq.1, .int .i64 fq.2], .bool true, .int .i64 0]) (by simp [results, Try.results30, go_sem, T0, T1]) rfl ⟨HBz.out, by rw [HX.out.1, HX.out.2]; rfl⟩
      · have HX := hid (show hv = false ∧ dv = (0, 0) from by
          have : hv = false := by rw [HH.out, hf]; simp
          exact ⟨this, by rw [HD.out, this]; rfl⟩)
        rw [hf]
        clear hf
        obtain ⟨T0, T1⟩ := set2_cells w5 w.heap.size (.int .i64 0) (.int .i64 0) _ _ x0 x1
        have HBz := hid ((p5.setCell (p := ⟨w.heap.size, 0, none⟩) (Nat.le_refl _) (.int .i64 0)).setCell (p := ⟨w.heap.size, 1, none⟩) (Nat.le_refl _) (.int .i64 0))
        go_wp2
        exact bodyPost_ret (v := .tuple #[.agg #[.int .i64 0, .int .i64 0], .bool false, .int .i64 0]) (by simp [results, Try.results30, go_sem, T0, T1]) rfl ⟨HBz.out, by rw [HX.out.1, HX.out.2]; rfl⟩
end Go.Proofs.Ytnjaacmcdkiilaa
