/- Who loses by one more meal: Loses of package share, and the document's own. -/
import Derived.Test.YtnjaacmcdkiilaaShRemX
import Derived.Test.YtnjaacmcdkiilaaShV
set_option linter.unusedVariables false
namespace Go.Proofs.Ytnjaacmcdkiilaa
open Go.RowKit

def losTo (f g : List Int) : Nat → List Int
  | 0 => []
  | k + 1 => if at0 g k < at0 f k then losTo f g k ++ [(k : Int)] else losTo f g k
theorem losTo_len (f g : List Int) (k : Nat) : (losTo f g k).length ≤ k := by
  induction k with
  | zero => simp [losTo]
  | succ k ih => unfold losTo; split <;> (try rw [List.length_append, List.length_singleton]) <;> omega
theorem losTo_bd (f g : List Int) (k : Nat) : ∀ x ∈ losTo f g k, 0 ≤ x ∧ x < (k : Int) := by
  induction k with
  | zero => simp [losTo]
  | succ k ih =>
    intro x hx
    unfold losTo at hx
    split at hx
    · rcases List.mem_append.1 hx with h | h
      · have := ih x h; omega
      · simp at h; omega
    · have := ih x hx; omega
def losO (os : List Int) (n : Int) : Bool := remO os n && !(n == 1000)
def losV (os : List Int) (n : Int) : List Int := if losO os n = true then losTo (remL os n) (remL os (n + 1)) os.length else []

set_option maxRecDepth 100000 in
set_option maxHeartbeats 4000000 in
theorem loses_any (oa : Option Addr) (os : List Int) (oc : Nat) (n : Int) (w : World) (ho : Ints w oa os) :
  Calls Try.prog 36 #[.slice oa os.length oc, .int .i64 n] w (ListE w (losV os n) (err (losO os n))) := by
  obtain ⟨i0, hi, hz0, hz1, hz2⟩ := info_parts int_info
  have HV := hid (show Calls Try.prog 69 #[.slice oa os.length oc, .int .i64 n] w (ErrR w (remO os n)) from checkNumber_any oa os oc n w ho)
  cases hd : remO os n with
  | false =>
    have hl : losO os n = false := by rw [losO, hd]; rfl
    have HD := hid (show losV os n = [] by rw [losV, hl]; rfl)
    rw [hd] at HV
    rw [hl]
    clear hd ho hl
    go_enter Try.func36, Try.ntmps36
    go_wp2_with fail
    refine HV.out.mono ?_
    rintro e w' ⟨rfl, rfl⟩
    rw [show err false = 1 from rfl]
    go_wp2
    go_ret2
    exact ⟨Below.refl _ _, none, 0, by rw [HD.out]; rfl, by rw [HD.out]; exact Own.nil _ _⟩
  | true =>
    obtain ⟨g1, g2, g3⟩ := remO_ok hd
    rw [hd] at HV
    cases hn : n == 1000 with
    | true =>
      have hl : losO os n = false := by rw [losO, hn]; simp
      have HD := hid (show losV os n = [] by rw [losV, hl]; rfl)
      rw [hl]
      clear hd ho hl g1 g2 g3
      go_enter Try.func36, Try.ntmps36
      go_wp2_with fail
      refine HV.out.mono ?_
      rintro e w' ⟨rfl, rfl⟩
      rw [show err true = 0 from rfl, show err false = 1 from rfl]
      go_wp2
      go_ret2
      exact ⟨Below.refl _ _, none, 0, by rw [HD.out]; rfl, by rw [HD.out]; exact Own.nil _ _⟩
    | false =>
      have hl : losO os n = true := by rw [losO, hd, hn]; rfl
      have HD := hid (show losV os n = losTo (remL os n) (remL os (n + 1)) os.length by rw [losV, hl]; rfl)
      have hn2 : n ≠ 1000 := by simpa using hn
      have HG := hid (byRests_any oa os oc n w ho g1 g2 g3)
      have HG2 := hid (fun w1 (hb : Below w.heap.size w w1) => byRests_any oa os oc (n + 1) w1 (ho.below hb) g1 (by omega) (by omega))
      obtain ⟨hl1, hl8, _⟩ := okO_len g1
      have hwn : IntKind.i64.wrap (n + 1) = n + 1 := IntWalk.i64_in _ (by omega)
      rw [hl]
      clear hd ho g1 hl hn2
      go_enter Try.func36, Try.ntmps36
      go_wp2_with fail
      refine HV.out.mono ?_
      rintro e w' ⟨rfl, rfl⟩
      rw [show err true = 0 from rfl]
      go_wp2_with fail
      refine HG.out.mono ?_
      rintro e w1 ⟨q1, A1, c1, rfl, o1⟩
      have hq1 := q1.size
      go_wp2_with fail
      refine (HG2.out w1 q1).mono ?_
      rintro e w2 ⟨q2, A2, c2, rfl, o2⟩
      have p2 := q1.trans (q2.mono hq1)
      have hsz := p2.size
      have o1' := own_below o1 q2
      have HAf := hid (show ∃ g, A1 = some ⟨g, 0, none⟩ from by
        obtain ⟨g, cc, hv, _⟩ := o1'.form hl1
        simp only [Value.slice.injEq] at hv
        exact ⟨g, hv.1⟩)
      have HAm := hid (show ∃ g, A2 = some ⟨g, 0, none⟩ from by
        obtain ⟨g, cc, hv, _⟩ := o2.form hl1
        simp only [Value.slice.injEq] at hv
        exact ⟨g, hv.1⟩)
      have HCf := hid (fun W (hb : Below w2.heap.size w2 W) k (hk : k < os.length) => show ∀ g, A1 = some ⟨g, 0, none⟩ → W.cell? ⟨g, k, none⟩ = some (.int .i64 (at0 (remL os n) k)) from fun g hg => by
        subst hg
        have h9 := row_at o1' (remL_len os n) k hk
        rw [hb.cell (cell_lt h9)]; exact h9)
      have HCm := hid (fun W (hb : Below w2.heap.size w2 W) k (hk : k < os.length) => show ∀ g, A2 = some ⟨g, 0, none⟩ → W.cell? ⟨g, k, none⟩ = some (.int .i64 (at0 (remL os (n + 1)) k)) from fun g hg => by
        subst hg
        have h9 := row_at o2 (remL_len os (n + 1)) k hk
        rw [hb.cell (cell_lt h9)]; exact h9)
      have HP := hid p2
      clear q1 q2 o1 o2 o1' p2 HG HG2
      go_wp2
      go_loopw [9, 28] (fun o i wr => ∃ k : Nat, k ≤ os.length ∧ i = .int .i64 k ∧ Hid (Own wr w2.heap.size o (losTo (remL os n) (remL os (n + 1)) k)) ∧ Below w2.heap.size w2 wr) (fun _ i _ => os.length - (intOf i).toNat)
      case atStart => exact ⟨0, Nat.zero_le _, rfl, Own.nil _ _, Below.refl _ _⟩
      case round =>
        obtain ⟨k, hk, rfl, HO, hB⟩ := hrel
        have hkl := losTo_len (remL os n) (remL os (n + 1)) k
        by_cases hlt : k < os.length
        · have e0' := HCf.out wr hB k hlt
          have e1' := HCm.out wr hB k hlt
          obtain ⟨af, rfl⟩ := HAf.out
          obtain ⟨am, rfl⟩ := HAm.out
          have e0 := e0' af rfl
          have e1 := e1' am rfl
          clear e0' e1'
          have HT := hid (show losTo (remL os n) (remL os (n + 1)) (k + 1) = if at0 (remL os (n + 1)) k < at0 (remL os n) k then losTo (remL os n) (remL os (n + 1)) k ++ [(k : Int)] else losTo (remL os n) (remL os (n + 1)) k from rfl)
          have i0' : (0 : Int) ≤ (k : Int) := by omega
          have i1' : (k : Int) < (os.length : Int) := by omega
          generalize at0 (remL os (n + 1)) k = y at *
          generalize at0 (remL os n) k = x at *
          by_cases hxy : y < x
          · have HX := hid ((HT.out).trans (if_pos hxy))
            generalize losTo (remL os n) (remL os (n + 1)) k = xs at *
            clear HT
            go_wp2
            go_quiet (fail)
            have hB2 := below_dn hB nq
            have hS2 := own_below HO.out (below_dn (Below.refl wr.heap.size wr) nq)
            have hzB := hB2.size
            clear HO
            generalize wr.drewN nq = wd at *
            go_wp2_with (at_builtin; refine wpList_append_own _ rfl _ _ 22 rfl w2.heap.size 3 i0 (.int .i64 0) 1 8 Try.underlying22 hi hz0 hz1 hz2 rfl (by decide) _ _ _ rfl (hS2.alloc _) ⟨wd.heap.size, 0, none⟩ 1 1 [.int .i64 (k : Int)] rfl rfl (cell_one_new _ _ _) (by simp [Value.oneCell']) (by unfold maxLen; omega) (by omega) (by first | omega | (simp; omega)) ?_)
            intro v' w6 hown2 hgrow _
            have p6 := (hB2.alloc hB2.size _).grown hgrow (by first | omega | (simp; omega)) (fun q hq => (hS2.lt q hq).1)
            clear hgrow hS2
            go_wp2
            go_roundw
            case rel => exact ⟨k + 1, by omega, by go_num, by unfold Hid Own; rw [HX.out]; simpa using hown2, p6⟩
            case measure => simp [intOf]; omega
          · have HX := hid ((HT.out).trans (if_neg hxy))
            have hd1 : decide (y < x) = false := decide_eq_false hxy
            clear HT
            go_wp2
            go_quiet (fail)
            go_wp2
            go_roundw
            case rel => exact ⟨k + 1, by omega, by go_num, by unfold Hid; rw [HX.out]; exact own_below HO.out (below_dn (Below.refl _ _) _), below_dn hB _⟩
            case measure => simp [intOf]; omega
        · obtain rfl : k = os.length := by omega
          obtain ⟨A, c, rfl⟩ := row_sl HO.out
          go_wp2
          go_ret2
          exact ⟨HP.out.trans (hB.mono hsz), A, c, by rw [HD.out]; rfl, by rw [HD.out]; exact own_weak HO.out hsz⟩

set_option maxRecDepth 100000 in
set_option maxHeartbeats 4000000 in
theorem rloses_any (oa : Option Addr) (os : List Int) (oc : Nat) (n : Int) (w : World) (ho : Ints w oa os) :
  Calls Try.prog 37 #[.slice oa os.length oc, .int .i64 n] w (ListE w (losV os n) (err (losO os n))) := by
  obtain ⟨i0, hi, hz0, hz1, hz2⟩ := info_parts int_info
  have HV := hid (rvalidateO_any oa os oc w ho)
  have HC := hid (fun w => countOK_any n w)
  have HE := hid (show remO os n = (okO os && inW n 0 1000) from rfl)
  cases h1 : okO os with
  | false =>
    have hl : losO os n = false := by rw [losO, HE.out, h1]; rfl
    have HD := hid (show losV os n = [] by rw [losV, hl]; rfl)
    rw [h1] at HV
    rw [hl]
    clear hl ho HE HC
    go_enter Try.func37, Try.ntmps37
    go_wp2_with fail
    refine HV.out.mono ?_
    rintro e w' ⟨rfl, rfl⟩
    rw [show err false = 1 from rfl]
    go_wp2
    go_ret2
    exact ⟨Below.refl _ _, none, 0, by rw [HD.out]; rfl, by rw [HD.out]; exact Own.nil _ _⟩
  | true =>
    rw [h1] at HV
    cases h2 : inW n 0 1000 with
    | false =>
      have hl : losO os n = false := by rw [losO, HE.out, h1, h2]; rfl
      have HD := hid (show losV os n = [] by rw [losV, hl]; rfl)
      rw [h2] at HC
      rw [hl]
      clear hl ho HE
      go_enter Try.func37, Try.ntmps37
      go_wp2_with fail
      refine HV.out.mono ?_
      rintro e w' ⟨rfl, rfl⟩
      rw [show err true = 0 from rfl, show err false = 1 from rfl]
      go_wp2_with fail
      refine (HC.out _).mono ?_
      rintro e w' ⟨rfl, rfl⟩
      go_wp2
      go_ret2
      exact ⟨Below.refl _ _, none, 0, by rw [HD.out]; rfl, by rw [HD.out]; exact Own.nil _ _⟩
    | true =>
      have hd : remO os n = true := by rw [HE.out, h1, h2]; rfl
      obtain ⟨g1, g2, g3⟩ := remO_ok hd
      rw [h2] at HC
      cases hn : n == 1000 with
      | true =>
        have hl : losO os n = false := by rw [losO, hn]; simp
        have HD := hid (show losV os n = [] by rw [losV, hl]; rfl)
        rw [hl]
        clear hd ho hl g1 g2 g3 HE
        go_enter Try.func37, Try.ntmps37
        go_wp2_with fail
        refine HV.out.mono ?_
        rintro e w' ⟨rfl, rfl⟩
        rw [show err true = 0 from rfl, show err false = 1 from rfl]
        go_wp2_with fail
        refine (HC.out _).mono ?_
        rintro e w' ⟨rfl, rfl⟩
        go_wp2
        go_ret2
        exact ⟨Below.refl _ _, none, 0, by rw [HD.out]; rfl, by rw [HD.out]; exact Own.nil _ _⟩
      | false =>
        have hl : losO os n = true := by rw [losO, hd, hn]; rfl
        have HD := hid (show losV os n = losTo (remL os n) (remL os (n + 1)) os.length by rw [losV, hl]; rfl)
        have hn2 : n ≠ 1000 := by simpa using hn
        have HG := hid (rrem_any oa os oc n w ho g1 g2 g3)
        have HG2 := hid (fun w1 (hb : Below w.heap.size w w1) => rrem_any oa os oc (n + 1) w1 (ho.below hb) g1 (by omega) (by omega))
        obtain ⟨hl1, hl8, _⟩ := okO_len g1
        have hwn : IntKind.i64.wrap (n + 1) = n + 1 := IntWalk.i64_in _ (by omega)
        rw [hl]
        clear hd ho g1 hl hn2 HE
        go_enter Try.func37, Try.ntmps37
        go_wp2_with fail
        refine HV.out.mono ?_
        rintro e w' ⟨rfl, rfl⟩
        rw [show err true = 0 from rfl]
        go_wp2_with fail
        refine (HC.out _).mono ?_
        rintro e w' ⟨rfl, rfl⟩
        go_wp2_with fail
        refine HG.out.mono ?_
        rintro e w1 ⟨q1, A1, c1, rfl, o1⟩
        have hq1 := q1.size
        go_wp2_with fail
        refine (HG2.out w1 q1).mono ?_
        rintro e w2 ⟨q2, A2, c2, rfl, o2⟩
        have p2 := q1.trans (q2.mono hq1)
        have hsz := p2.size
        have o1' := own_below o1 q2
        have HAf := hid (show ∃ g, A1 = some ⟨g, 0, none⟩ from by
          obtain ⟨g, cc, hv, _⟩ := o1'.form hl1
          simp only [Value.slice.injEq] at hv
          exact ⟨g, hv.1⟩)
        have HAm := hid (show ∃ g, A2 = some ⟨g, 0, none⟩ from by
          obtain ⟨g, cc, hv, _⟩ := o2.form hl1
          simp only [Value.slice.injEq] at hv
          exact ⟨g, hv.1⟩)
        have HCf := hid (fun W (hb : Below w2.heap.size w2 W) k (hk : k < os.length) => show ∀ g, A1 = some ⟨g, 0, none⟩ → W.cell? ⟨g, k, none⟩ = some (.int .i64 (at0 (remL os n) k)) from fun g hg => by
          subst hg
          have h9 := row_at o1' (remL_len os n) k hk
          rw [hb.cell (cell_lt h9)]; exact h9)
        have HCm := hid (fun W (hb : Below w2.heap.size w2 W) k (hk : k < os.length) => show ∀ g, A2 = some ⟨g, 0, none⟩ → W.cell? ⟨g, k, none⟩ = some (.int .i64 (at0 (remL os (n + 1)) k)) from fun g hg => by
          subst hg
          have h9 := row_at o2 (remL_len os (n + 1)) k hk
          rw [hb.cell (cell_lt h9)]; exact h9)
        have HP := hid p2
        clear q1 q2 o1 o2 o1' p2 HG HG2
        go_wp2
        go_loopw [9, 10] (fun o i wr => ∃ k : Nat, k ≤ os.length ∧ i = .int .i64 k ∧ Hid (Own wr w2.heap.size o (losTo (remL os n) (remL os (n + 1)) k)) ∧ Below w2.heap.size w2 wr) (fun _ i _ => os.length - (intOf i).toNat)
        case atStart => exact ⟨0, Nat.zero_le _, rfl, Own.nil _ _, Below.refl _ _⟩
        case round =>
          obtain ⟨k, hk, rfl, HO, hB⟩ := hrel
          have hkl := losTo_len (remL os n) (remL os (n + 1)) k
          by_cases hlt : k < os.length
          · have e0' := HCf.out wr hB k hlt
            have e1' := HCm.out wr hB k hlt
            obtain ⟨af, rfl⟩ := HAf.out
            obtain ⟨am, rfl⟩ := HAm.out
            have e0 := e0' af rfl
            have e1 := e1' am rfl
            clear e0' e1'
            have HT := hid (show losTo (remL os n) (remL os (n + 1)) (k + 1) = if at0 (remL os (n + 1)) k < at0 (remL os n) k then losTo (remL os n) (remL os (n + 1)) k ++ [(k : Int)] else losTo (remL os n) (remL os (n + 1)) k from rfl)
            have i0' : (0 : Int) ≤ (k : Int) := by omega
            have i1' : (k : Int) < (os.length : Int) := by omega
            generalize at0 (remL os (n + 1)) k = y at *
            generalize at0 (remL os n) k = x at *
            by_cases hxy : y < x
            · have HX := hid ((HT.out).trans (if_pos hxy))
              generalize losTo (remL os n) (remL os (n + 1)) k = xs at *
              clear HT
              go_wp2
              go_quiet (fail)
              have hB2 := below_dn hB nq
              have hS2 := own_below HO.out (below_dn (Below.refl wr.heap.size wr) nq)
              have hzB := hB2.size
              clear HO
              generalize wr.drewN nq = wd at *
              go_wp2_with (at_builtin; refine wpList_append_own _ rfl _ _ 22 rfl w2.heap.size 3 i0 (.int .i64 0) 1 8 Try.underlying22 hi hz0 hz1 hz2 rfl (by decide) _ _ _ rfl (hS2.alloc _) ⟨wd.heap.size, 0, none⟩ 1 1 [.int .i64 (k : Int)] rfl rfl (cell_one_new _ _ _) (by simp [Value.oneCell']) (by unfold maxLen; omega) (by omega) (by first | omega | (simp; omega)) ?_)
              intro v' w6 hown2 hgrow _
              have p6 := (hB2.alloc hB2.size _).grown hgrow (by first | omega | (simp; omega)) (fun q hq => (hS2.lt q hq).1)
              clear hgrow hS2
              go_wp2
              go_roundw
              case rel => exact ⟨k + 1, by omega, by go_num, by unfold Hid Own; rw [HX.out]; simpa using hown2, p6⟩
              case measure => simp [intOf]; omega
            · have HX := hid ((HT.out).trans (if_neg hxy))
              have hd1 : decide (y < x) = false := decide_eq_false hxy
              clear HT
              go_wp2
              go_quiet (fail)
              go_wp2
              go_roundw
              case rel => exact ⟨k + 1, by omega, by go_num, by unfold Hid; rw [HX.out]; exact own_below HO.out (below_dn (Below.refl _ _) _), below_dn hB _⟩
              case measure => simp [intOf]; omega
          · obtain rfl : k = os.length := by omega
            obtain ⟨A, c, rfl⟩ := row_sl HO.out
            go_wp2
            go_ret2
            exact ⟨HP.out.trans (hB.mono hsz), A, c, by rw [HD.out]; rfl, by rw [HD.out]; exact own_weak HO.out hsz⟩
end Go.Proofs.Ytnjaacmcdkiilaa
