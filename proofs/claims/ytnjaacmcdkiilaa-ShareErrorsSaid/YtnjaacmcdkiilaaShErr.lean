/- How far meals are from their quotas: Error of package share, and the document's own. -/
import Derived.Test.YtnjaacmcdkiilaaShV
import Derived.Test.YtnjaacmcdkiilaaShU
set_option linter.unusedVariables false
namespace Go.Proofs.Ytnjaacmcdkiilaa
open Go.RowKit

def offL (os ms : List Int) : Int := sumL (gapsTo os ms os.length)
def errV (os ms : List Int) : Int × Int := if okP os ms = true then fracL (offL os ms).toNat (sumL os).toNat else (0, 0)
theorem gaps_bd {os ms : List Int} (ho : okO os = true) (hm : okMs os ms = true) : ∀ x ∈ gapsTo os ms os.length, 0 ≤ x ∧ x ≤ 8000000000 := fun x hx => by
  obtain ⟨k, hk, rfl⟩ := (gapsTo_mem _ _ _ _).1 hx
  exact absI_bd (difL_bd ho hm hk)
theorem gaps_bd2 {os ms : List Int} (ho : okO os = true) (hm : okMs os ms = true) (n : Nat) (hn : n ≤ os.length) : 0 ≤ sumL (gapsTo os ms n) ∧ sumL (gapsTo os ms n) ≤ (n : Int) * 8000000000 := by
  have hb : ∀ x ∈ gapsTo os ms n, 0 ≤ x ∧ x ≤ 8000000000 := fun x hx => by
    obtain ⟨k, hk, rfl⟩ := (gapsTo_mem _ _ _ _).1 hx
    exact absI_bd (difL_bd ho hm (by omega))
  have := sumL_bd hb
  rw [gapsTo_len] at this
  omega
theorem off_bd {os ms : List Int} (ho : okO os = true) (hm : okMs os ms = true) : 0 ≤ offL os ms ∧ offL os ms ≤ 64000000000 := by
  have := gaps_bd2 ho hm os.length (Nat.le_refl _)
  have h8 := (okO_len ho).2.1
  unfold offL
  omega

set_option maxRecDepth 100000 in
set_option maxHeartbeats 2000000 in
theorem error_any (a b : Option Addr) (os ms : List Int) (ca cb : Nat) (w : World) (h : Ints w a os) (h2 : Ints w b ms) :
  Calls Try.prog 44 #[.slice a os.length ca, .slice b ms.length cb] w (RatE w (errV os ms) (err (okP os ms))) := by
  have HB0 := hid ((Below.refl w.heap.size w).alloc (Nat.le_refl _) (.cells #[.int .i64 0, .int .i64 0] 39))
  have HV := hid (fun w' (hb : Below w.heap.size w w') => show Calls Try.prog 76 #[.slice a os.length ca, .slice b ms.length cb] w' (ErrR w' (okP os ms)) from checkMeals_any a b os ms ca cb w' (h.below hb) (h2.below hb))
  cases hd : okP os ms with
  | false =>
    have HD := hid (show errV os ms = (0, 0) by rw [errV, hd]; rfl)
    have HB := hid ((((Below.refl w.heap.size w).alloc (Nat.le_refl _) (.cells #[.int .i64 0, .int .i64 0] 39)).setCell (p := ⟨w.heap.size, 0, none⟩) (Nat.le_refl _) (.int .i64 0)).setCell (p := ⟨w.heap.size, 1, none⟩) (Nat.le_refl _) (.int .i64 0))
    rw [hd] at HV
    clear hd h h2
    go_enter Try.func44, Try.ntmps44
    go_wp2_with fail
    refine (HV.out _ HB0.out).mono ?_
    rintro e w' ⟨rfl, rfl⟩
    rw [show err false = 1 from rfl]
    go_wp2
    exact bodyPost_ret (v := .tuple #[.agg #[.int .i64 0, .int .i64 0], .int .i64 1]) (by simp [results, Try.results44, go_sem]) rfl ⟨by repeat (first | exact HB.out | exact HB0.out | exact Below.refl _ _ | refine Below.alloc ?_ (by simp <;> omega) _ | refine Below.setCell ?_ (by simp <;> omega) _), by rw [HD.out]; rfl⟩
  | true =>
    have hd' : okO os = true ∧ okMs os ms = true := by simpa [okP] using hd
    obtain ⟨ho, hm⟩ := hd'
    obtain ⟨v1, s1, s2⟩ := okO_vals ho
    have h8 := okO_len ho
    have hl8 := h8.2.1
    have HD := hid (show errV os ms = fracL (offL os ms).toNat (sumL os).toNat by rw [errV, hd]; rfl)
    have HG := hid (fun w' (hb : Below w.heap.size w w') => gaps_any a b os ms ca cb w' (h.below hb) (h2.below hb) ho hm)
    have HS := hid (fun (w' : World) (hb : Below w.heap.size w w') => sum_any a os ca w' (h.below hb) (fun x hx => by have := v1 x hx; omega) (by omega))
    have hgl := gapsTo_len os ms os.length
    have hgb := gaps_bd ho hm
    obtain ⟨t1, t2⟩ := off_bd ho hm
    have HSg := hid (fun (A : Option Addr) (c : Nat) (w' : World) (hi : Ints w' A (gapsTo os ms os.length)) => sum_any A (gapsTo os ms os.length) c w' hi (fun x hx => by have := hgb x hx; omega) (by omega))
    rw [hgl, show sumL (gapsTo os ms os.length) = offL os ms from rfl] at HSg
    have HGI := hid (fun (w' : World) (base : Nat) (A : Option Addr) (c : Nat) (ho : Own w' base (.slice A os.length c) (gapsTo os ms os.length)) => show Ints w' A (gapsTo os ms os.length) by
      obtain ⟨_, _, hv, hI⟩ := ho.ints (by omega) (fun x hx => by have := hgb x hx; omega)
      rw [hgl] at hv
      cases hv
      exact hI)
    have HVr := hid (Var2.made w)
    rw [hd] at HV
    clear hd h h2 h8 ho hm v1 hgl hgb
    generalize gapsTo os ms os.length = gl at *
    generalize hX : offL os ms = X at *
    generalize hY : sumL os = Y at *
    obtain ⟨x, rfl⟩ := Int.eq_ofNat_of_zero_le t1
    obtain ⟨y, rfl⟩ := Int.eq_ofNat_of_zero_le (show 0 ≤ Y by omega)
    rw [Int.toNat_natCast, Int.toNat_natCast] at HD
    clear hX hY
    have HLo := hid (fun w => lowest_any x y w (by omega) (by omega) (by omega))
    generalize fracL x y = pq at *
    obtain ⟨p, q⟩ := pq
    go_enter Try.func44, Try.ntmps44
    go_wp2_with fail
    refine (HV.out _ HB0.out).mono ?_
    rintro e w' ⟨rfl, rfl⟩
    rw [show err true = 0 from rfl]
    go_wp2_with fail
    refine (HG.out _ HB0.out).mono ?_
    rintro e w1 ⟨q1, A, c, rfl, o1⟩
    have p1 := HB0.out.trans (q1.mono (by simp))
    have V1 := hid (HVr.out.keep q1)
    have i1 := HGI.out _ _ _ _ o1
    clear o1
    go_wp2_with fail
    refine (HSg.out _ _ _ i1).mono ?_
    rintro e w' ⟨rfl, rfl⟩
    go_wp2_with fail
    refine (HS.out _ p1).mono ?_
    rintro e w' ⟨rfl, rfl⟩
    go_wp2_with fail
    refine (HLo.out _).mono ?_
    rintro e w2 ⟨q2, rfl⟩
    have p2 := p1.trans (q2.mono p1.size)
    have V2 := hid (V1.out.keep q2)
    obtain ⟨a0, a1, f0, f1⟩ := V2.out
    obtain ⟨z0, z1⟩ := set2_cells w2 w.heap.size (.int .i64 p) (.int .i64 q) _ _ a0 a1
    have HB := hid ((p2.setCell (p := ⟨w.heap.size, 0, none⟩) (Nat.le_refl _) (.int .i64 p)).setCell (p := ⟨w.heap.size, 1, none⟩) (Nat.le_refl _) (.int .i64 q))
    clear q1 q2 i1 HV HG HS HSg HGI HLo
    go_wp2
    exact bodyPost_ret (v := .tuple #[.agg #[.int .i64 p, .int .i64 q], .int .i64 0]) (by simp [results, Try.results44, go_sem, z0, z1]) rfl ⟨HB.out, by rw [HD.out]; rfl⟩

set_option maxRecDepth 100000 in
set_option maxHeartbeats 2000000 in
theorem off_any (a b : Option Addr) (os ms : List Int) (ca cb : Nat) (w : World) (h : Ints w a os) (h2 : Ints w b ms) (ho : okO os = true) (hm : okMs os ms = true) :
  Calls Try.prog 80 #[.slice a os.length ca, .slice b ms.length cb] w (IntR w (offL os ms)) := by
  obtain ⟨v1, s1, s2⟩ := okO_vals ho
  obtain ⟨v2, e, s3, s4⟩ := okMs_vals ho hm
  have h8 := okO_len ho
  have hl8 := h8.2.1
  have HS := hid (fun (w' : World) (hb : Below w.heap.size w w') => rsum_any a os ca w' (h.below hb) (fun x hx => by have := v1 x hx; omega) (by omega))
  have HS2 := hid (fun (w' : World) (hb : Below w.heap.size w w') => rsum_any b ms cb w' (h2.below hb) (fun x hx => by have := v2 x hx; omega) (by omega))
  have HDb := hid (fun k hk => difL_bd ho hm (k := k) hk)
  have HGb := hid (fun k hk => gaps_bd2 ho hm k hk)
  have HV1 := hid v1
  have HV2 := hid v2
  have e1 : ms.length ≤ os.length := by omega
  have e2 : os.length ≤ ms.length := by omega
  have HO := hid h
  have HM := hid h2
  have HDe := hid (fun k => show difL os ms k = ms[k]?.getD 0 * sumL os - sumL ms * os[k]?.getD 0 from rfl)
  have HOf := hid (show offL os ms = sumL (gapsTo os ms os.length) from rfl)
  clear h h2 ho hm v1 v2 e h8
  generalize sumL os = S at *
  generalize sumL ms = T at *
  go_enter Try.func80, Try.ntmps80
  go_wp2_with fail
  refine (HS2.out _ (Below.refl _ _)).mono ?_
  rintro e w' ⟨rfl, rfl⟩
  go_wp2_with fail
  refine (HS.out _ (Below.refl _ _)).mono ?_
  rintro e w' ⟨rfl, rfl⟩
  go_wp2
  go_loopw [7, 8] (fun t i wr => ∃ j : Nat, j ≤ os.length ∧ i = .int .i64 (j : Int) ∧ t = .int .i64 (sumL (gapsTo os ms j)) ∧ Below w.heap.size w wr) (fun _ i _ => os.length - (intOf i).toNat)
  case atStart => exact ⟨0, Nat.zero_le _, rfl, rfl, Below.refl _ _⟩
  case round =>
    obtain ⟨k, hk, rfl, rfl, hB⟩ := hrel
    by_cases hlt : k < os.length
    · rcases (HO.out.below hB).at_ with e | ⟨b1, off, rfl, hc⟩
      · rw [e] at hlt; simp at hlt
      rcases (HM.out.below hB).at_ with e | ⟨bm, om, rfl, hcm⟩
      · rw [e, List.length_nil] at e2; omega
      have c0 := hc k hlt
      have c1 := hcm k (by omega)
      have hx := HV1.out _ (getD_mem os k hlt)
      have hy := HV2.out _ (getD_mem ms k (by omega))
      have hd := HDb.out k hlt
      have hde := HDe.out k
      have hg := HGb.out k hk
      have HGs := hid (show sumL (gapsTo os ms (k + 1)) = sumL (gapsTo os ms k) + absI (difL os ms k) from by
        show sumL (gapsTo os ms k ++ [absI (difL os ms k)]) = _
        rw [sumL_app]; simp [sumL])
      clear hc hcm
      generalize os[k]?.getD 0 = x at *
      generalize ms[k]?.getD 0 = y at *
      have p := mul_bd hy.1 hy.2 (by omega : 0 ≤ S) s2
      have q := mul_bd s3 s4 (by omega : 0 ≤ x) hx.2
      generalize difL os ms k = d at *
      generalize sumL (gapsTo os ms k) = z at *
      generalize hys : y * S = ys at *
      generalize htx : T * x = tx at *
      have hk1 : (k : Int) < (os.length : Int) := by omega
      have hk2 : (k : Int) < (ms.length : Int) := by omega
      have hk0 : (0 : Int) ≤ (k : Int) := by omega
      subst hde
      have hw1 : IntKind.i64.wrap (y * S) = ys := by rw [hys]; exact IntWalk.i64_in _ (by omega)
      have hw2 : IntKind.i64.wrap (T * x) = tx := by rw [htx]; exact IntWalk.i64_in _ (by omega)
      have hw3 : IntKind.i64.wrap (ys - tx) = ys - tx := IntWalk.i64_in _ (by omega)
      clear hys htx
      go_wp2
      go_quiet (fail)
      have q1 : Below w.heap.size w (wr.drewN nq) := below_dn hB _
      clear hw1 hw2 hw3
      generalize ys - tx = d at *
      by_cases h1 : d < 0
      · have ha : absI d = -d := by unfold absI; rw [if_neg (by omega)]
        have hw4 : IntKind.i64.wrap (-d) = -d := IntWalk.i64_in _ (by omega)
        have hw5 : IntKind.i64.wrap (z + -d) = z + -d := IntWalk.i64_in _ (by omega)
        go_wp2
        go_roundw
        case rel => exact ⟨k + 1, by omega, by go_num, by rw [HGs.out, ha], q1⟩
        case measure => simp [intOf]; omega
      · have ha : absI d = d := by unfold absI; rw [if_pos (by omega)]
        have hw5 : IntKind.i64.wrap (z + d) = z + d := IntWalk.i64_in _ (by omega)
        go_wp2
        go_roundw
        case rel => exact ⟨k + 1, by omega, by go_num, by rw [HGs.out, ha], q1⟩
        case measure => simp [intOf]; omega
    · obtain rfl : k = os.length := by omega
      go_wp2
      go_ret
      exact ⟨hB, ret_int (by rw [HOf.out])⟩

set_option maxRecDepth 100000 in
set_option maxHeartbeats 2000000 in
theorem rerror_any (a b : Option Addr) (os ms : List Int) (ca cb : Nat) (w : World) (h : Ints w a os) (h2 : Ints w b ms) :
  Calls Try.prog 45 #[.slice a os.length ca, .slice b ms.length cb] w (RatE w (errV os ms) (err (okP os ms))) := by
  have HB0 := hid ((Below.refl w.heap.size w).alloc (Nat.le_refl _) (.cells #[.int .i64 0, .int .i64 0] 39))
  have HV := hid (fun w' (hb : Below w.heap.size w w') => show Calls Try.prog 59 #[.slice a os.length ca, .slice b ms.length cb, .int .i64 0] w' (ErrR w' (okP os ms)) from by have h9 := have_any a b os ms ca cb 0 w' (h.below hb) (h2.below hb); rw [show (okO os && okMs os ms && okK 0) = okP os ms by simp [okP, okK]] at h9; exact h9)
  cases hd : okP os ms with
  | false =>
    have HD := hid (show errV os ms = (0, 0) by rw [errV, hd]; rfl)
    have HB := hid ((((Below.refl w.heap.size w).alloc (Nat.le_refl _) (.cells #[.int .i64 0, .int .i64 0] 39)).setCell (p := ⟨w.heap.size, 0, none⟩) (Nat.le_refl _) (.int .i64 0)).setCell (p := ⟨w.heap.size, 1, none⟩) (Nat.le_refl _) (.int .i64 0))
    rw [hd] at HV
    clear hd h h2
    go_enter Try.func45, Try.ntmps45
    go_wp2_with fail
    refine (HV.out _ HB0.out).mono ?_
    rintro e w' ⟨rfl, rfl⟩
    rw [show err false = 1 from rfl]
    go_wp2
    exact bodyPost_ret (v := .tuple #[.agg #[.int .i64 0, .int .i64 0], .int .i64 1]) (by simp [results, Try.results45, go_sem]) rfl ⟨by repeat (first | exact HB.out | exact HB0.out | exact Below.refl _ _ | refine Below.alloc ?_ (by simp <;> omega) _ | refine Below.setCell ?_ (by simp <;> omega) _), by rw [HD.out]; rfl⟩
  | true =>
    have hd' : okO os = true ∧ okMs os ms = true := by simpa [okP] using hd
    obtain ⟨ho, hm⟩ := hd'
    obtain ⟨v1, s1, s2⟩ := okO_vals ho
    have h8 := okO_len ho
    have hl8 := h8.2.1
    have HD := hid (show errV os ms = fracL (offL os ms).toNat (sumL os).toNat by rw [errV, hd]; rfl)
    have HG := hid (fun w' (hb : Below w.heap.size w w') => off_any a b os ms ca cb w' (h.below hb) (h2.below hb) ho hm)
    have HS := hid (fun (w' : World) (hb : Below w.heap.size w w') => rsum_any a os ca w' (h.below hb) (fun x hx => by have := v1 x hx; omega) (by omega))
    obtain ⟨t1, t2⟩ := off_bd ho hm
    have HVr := hid (Var2.made w)
    rw [hd] at HV
    clear hd h h2 h8 ho hm v1
    generalize hX : offL os ms = X at *
    generalize hY : sumL os = Y at *
    obtain ⟨x, rfl⟩ := Int.eq_ofNat_of_zero_le t1
    obtain ⟨y, rfl⟩ := Int.eq_ofNat_of_zero_le (show 0 ≤ Y by omega)
    rw [Int.toNat_natCast, Int.toNat_natCast] at HD
    clear hX hY
    have HLo := hid (fun w => fraction_any x y w (by omega) (by omega) (by omega))
    generalize fracL x y = pq at *
    obtain ⟨p, q⟩ := pq
    go_enter Try.func45, Try.ntmps45
    go_wp2_with fail
    refine (HV.out _ HB0.out).mono ?_
    rintro e w' ⟨rfl, rfl⟩
    rw [show err true = 0 from rfl]
    go_wp2_with fail
    refine (HG.out _ HB0.out).mono ?_
    rintro e w1 ⟨q1, rfl⟩
    have p1 := HB0.out.trans (q1.mono (by simp))
    have V1 := hid (HVr.out.keep q1)
    go_wp2_with fail
    refine (HS.out _ p1).mono ?_
    rintro e w' ⟨rfl, rfl⟩
    go_wp2_with fail
    refine (HLo.out _).mono ?_
    rintro e w2 ⟨q2, rfl⟩
    have p2 := p1.trans (q2.mono p1.size)
    have V2 := hid (V1.out.keep q2)
    obtain ⟨a0, a1, f0, f1⟩ := V2.out
    obtain ⟨z0, z1⟩ := set2_cells w2 w.heap.size (.int .i64 p) (.int .i64 q) _ _ a0 a1
    have HB := hid ((p2.setCell (p := ⟨w.heap.size, 0, none⟩) (Nat.le_refl _) (.int .i64 p)).setCell (p := ⟨w.heap.size, 1, none⟩) (Nat.le_refl _) (.int .i64 q))
    clear q1 q2 HV HG HS HLo
    go_wp2
    exact bodyPost_ret (v := .tuple #[.agg #[.int .i64 p, .int .i64 q], .int .i64 0]) (by simp [results, Try.results45, go_sem, z0, z1]) rfl ⟨HB.out, by rw [HD.out]; rfl⟩

end Go.Proofs.Ytnjaacmcdkiilaa
