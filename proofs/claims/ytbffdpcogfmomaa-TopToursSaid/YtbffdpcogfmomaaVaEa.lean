/- The document's Earliest: chapter 8. -/
import Derived.Test.YtbffdpcogfmomaaVaRSh
import Derived.Test.YtbffdpcogfmomaaVaLa
set_option linter.unusedVariables false
namespace Go.Proofs.Ytbffdpcogfmomaa
open Go.RowKit

/-- The earliest minute at which the van is back from one of the first k tours. -/
structure EarlTo (t : Tbl) (l : List St) (b : Int) (all : List (List Int)) (k : Nat) (s : Option Int) : Prop where
  yes : ∀ m, s = some m → ∃ f ∈ all, inTB t l f b = true ∧ backD t l f b = m
  low : ∀ j, j < k → inTB t l (rZ all j) b = true → ∃ m, s = some m ∧ m ≤ backD t l (rZ all j) b
structure IsEarl (t : Tbl) (l : List St) (b : Int) (s : Option Int) : Prop where
  yes : ∀ m, s = some m → ∃ f, IsTour f t.length ∧ inTB t l f b = true ∧ backD t l f b = m
  low : ∀ q, IsTour q t.length → inTB t l q b = true → ∃ m, s = some m ∧ m ≤ backD t l q b
theorem IsEarl.eq {t : Tbl} {l : List St} {b : Int} {s s' : Option Int} (h : IsEarl t l b s) (k : IsEarl t l b s') : s = s' := by
  cases s with
  | none =>
    cases s' with
    | none => rfl
    | some m' =>
      obtain ⟨f, hf, hi, _⟩ := k.yes m' rfl
      obtain ⟨m, e, _⟩ := h.low f hf hi
      cases e
  | some m =>
    obtain ⟨f, hf, hi, e1⟩ := h.yes m rfl
    obtain ⟨m2, e2, h2⟩ := k.low f hf hi
    subst e2
    obtain ⟨g, hg, hj, e3⟩ := k.yes m2 rfl
    obtain ⟨m3, e4, h4⟩ := h.low g hg hj
    cases e4
    have : m = m2 := by omega
    rw [this]
theorem EarlTo.all {t : Tbl} {l : List St} {b : Int} {s : Option Int} (h : EarlTo t l b (toursZ t.length) (toursZ t.length).length s) : IsEarl t l b s := by
  refine ⟨fun m hm => ?_, fun q hq hi => ?_⟩
  · obtain ⟨f, hf, h1, h2⟩ := h.yes m hm
    exact ⟨f, (toursZ_mem _ f).1 hf, h1, h2⟩
  · obtain ⟨i, hj, rfl⟩ := mem_rZ ((toursZ_mem _ q).2 hq)
    exact h.low i hj hi
theorem touE_nil (t : Tbl) (l : List St) : touE t l [] = stsE t l := by
  unfold touE
  split
  · rename_i h
    rw [h]
    exact (tourE_iff [] t.length).2 ⟨fun x hx => by simp at hx, List.nodup_nil⟩
  · rfl
/-- What Earliest answers, but for the tour. -/
def EarR (t : Tbl) (l : List St) (b : Int) (w : World) (en : Ending) (w' : World) : Prop :=
  Below w.heap.size w w' ∧ ((drvE t l [] b ≠ 0 ∧ en = .returned (.tuple #[.int .i64 0, .bool false, .int .i64 (drvE t l [] b)])) ∨
    (drvE t l [] b = 0 ∧ ∃ s : Option Int, IsEarl t l b s ∧ en = .returned (.tuple #[.int .i64 (s.getD 0), .bool s.isSome, .int .i64 0])))
set_option maxRecDepth 100000 in
set_option maxHeartbeats 4000000 in
theorem rEarliest_any (a A : Option Addr) (t : Tbl) (l : List St) (b : Int) (cap c : Nat) (w : World) (h : TabAt w a t) (hs : StsAt w A l) : Calls Try.prog 49 #[.slice a t.length cap, .slice A l.length c, .int .i64 b] w (EarR t l b w) := by
  have HV := hid (rStops_any a A t l cap c w h hs)
  have HTn := hid (touE_nil t l)
  by_cases hv : stsE t l = 0
  · rw [hv] at HV
    have HW := hid (fun (W : World) => rWithin8_any b 0 10000 W)
    cases hz : zin b 0 10000 with
    | true =>
      have hto : touE t l [] = 0 := by rw [HTn.out]; exact hv
      have hdv := drvE_zin hto hz
      obtain ⟨ht, hl, _, _, hb⟩ := drvE_ok hdv
      have hl7 := ht.len
      have hpos := ht.pos
      have HE := hid hdv
      rw [hz] at HW
      have HTo := hid (fun (W : World) => rTours_any a t.length cap W hpos hl7)
      have HCh := hid (fun (B : Option Addr) (o : List Int) (d : Nat) (W : World) (hW : Below w.heap.size w W) (hI : Ints W B o) (ho : IsTour o t.length) => rCheckI_any a A B t l o b cap c d W (h.below hW) (hs.below hW) hI ht hl ho.stops hb (by rw [ho.len]; omega))
      have hTl := toursZ_len t.length
      have hfz := fz_le (t.length - 1) (by omega)
      have HSh := hid (fun (s : Option Int) hm => EarlTo.all (t := t) (l := l) (b := b) (s := s) hm)
      have HMem := hid (toursZ_mem t.length)
      obtain ⟨all, hall⟩ : ∃ all, toursZ t.length = all := ⟨_, rfl⟩
      have HAll := hid hall
      rw [hall] at hTl HSh HMem
      obtain ⟨L, hL⟩ : ∃ L, all.length = L := ⟨_, rfl⟩
      have HL := hid hL
      rw [hL] at hTl HSh
      have hL5 : L ≤ 5040 := by omega
      have HT7 := hid hl7
      clear h hs hv ht hl hb hz hto hdv hTl hfz hall hL hpos
      go_enter Try.func49, Try.ntmps49
      go_wp2_with fail
      refine HV.out.mono ?_
      rintro e w1 ⟨hb1, rfl⟩
      have HB1 := hid hb1
      clear hb1 HV
      go_wp2_with fail
      refine (HW.out _).mono ?_
      rintro e w2 ⟨rfl, rfl⟩
      go_wp2_with fail
      refine (HTo.out _).mono ?_
      rintro e w2 ⟨hb2, B, c2, rfl, hO⟩
      rw [HAll.out, HL.out] at hO ⊢
      have HB2 := hid (HB1.out.trans (hb2.mono HB1.out.size))
      have HO := hid hO
      clear hb2 hO HTo
      have HRow := hid (fun (i : Nat) (hi : i < L) (W : World) (hb : Below w2.heap.size w2 W) => (show IsTour (rZ all i) t.length ∧ ∃ g A2 d, B = some ⟨g, 0, none⟩ ∧ W.cell? ⟨g, i, none⟩ = some (.slice A2 (rZ all i).length d) ∧ Ints W A2 (rZ all i) from by
        have hT := (HMem.out (rZ all i)).1 (rZ_mem (by rw [HL.out]; exact hi))
        obtain ⟨b1, b2⟩ := tour_bd hT HT7.out
        obtain ⟨g, c, A2, d, hv, hc, hI⟩ := (HO.out.below hb).ints i (by rw [HL.out]; exact hi) b1 b2
        simp only [Value.slice.injEq] at hv
        exact ⟨hT, g, A2, d, hv.1, hc, hI⟩))
      go_wp2_with fail
      go_loopw [10, 11, 13] (fun u v x wr => ∃ (s : Option Int) (i : Nat), i ≤ L ∧ u = .int .i64 (s.getD 0) ∧ v = .bool s.isSome ∧ x = .int .i64 (i : Int) ∧ Hid (EarlTo t l b all i s) ∧ Hid (Below w.heap.size w wr) ∧ Hid (Below w2.heap.size w2 wr)) (fun _ _ x _ => L - (intOf x).toNat)
      case atStart => exact ⟨none, 0, Nat.zero_le _, rfl, rfl, rfl, ⟨(fun m hm => by cases hm), fun j hj => by omega⟩, HB2, Below.refl _ _⟩
      case round =>
        obtain ⟨s, i, hi, rfl, rfl, rfl, HLe, HB, HX⟩ := hrel
        clear HB2
        by_cases hlt : i < L
        · obtain ⟨hT0, g, A2, d2, hA, c0, hI0⟩ := HRow.out i hlt wr HX.out
          subst hA
          have HC := hid (HCh.out A2 _ d2 wr HB.out hI0 hT0)
          have HMm := hid (rZ_mem (T := all) (i := i) (by rw [HL.out]; exact hlt))
          obtain ⟨o, ho⟩ : ∃ o, rZ all i = o := ⟨_, rfl⟩
          have HRo := hid ho
          rw [ho] at HC c0 HMm
          obtain ⟨n0, hn0⟩ : ∃ n0, o.length = n0 := ⟨_, rfl⟩
          have HN0 := hid hn0
          rw [hn0] at HC c0
          have q1 : (i : Int) < (L : Int) := by omega
          clear ho hn0 hI0 hT0
          go_wp2_with fail
          refine HC.out.mono ?_
          rintro e w4 ⟨hb4, m, hm, rfl⟩
          have HB4 := hid (HB.out.trans (hb4.mono HB.out.size))
          have HX4 := hid (HX.out.trans (hb4.mono HX.out.size))
          have HIn := hid hm.inT
          clear hb4 hm HC c0
          by_cases hme : m = o.length
          · rw [if_neg (show ¬ m < o.length by omega), decide_eq_true hme]
            rw [decide_eq_true hme] at HIn
            clear hme
            obtain ⟨x, hx⟩ : ∃ x, backD t l o b = x := ⟨_, rfl⟩
            have HXx := hid hx
            rw [hx]
            clear hx
            have HNew := hid (fun (hlow : ∀ m, s = some m → x ≤ m) => show EarlTo t l b all (i + 1) (some x) from ⟨(fun m hm => by cases hm; exact ⟨o, HMm.out, HIn.out, HXx.out⟩), fun j hj hjt => by
              rcases Nat.lt_or_ge j i with h | h
              · obtain ⟨m, e, h2⟩ := HLe.out.low j h hjt
                exact ⟨x, rfl, Int.le_trans (hlow m e) h2⟩
              · refine ⟨x, rfl, ?_⟩
                rw [show j = i by omega, HRo.out, HXx.out]; exact Int.le_refl _⟩)
            have HOld := hid (fun (m : Int) (hs : s = some m) (hmx : m ≤ x) => show EarlTo t l b all (i + 1) s from ⟨HLe.out.yes, fun j hj hjt => by
              rcases Nat.lt_or_ge j i with h | h
              · exact HLe.out.low j h hjt
              · refine ⟨m, hs, ?_⟩
                rw [show j = i by omega, HRo.out, HXx.out]; exact hmx⟩)
            cases s with
            | none =>
              have HF := hid (HNew.out (fun m hm => by cases hm))
              clear HNew HOld
              simp only [Option.getD_none, Option.isSome_none]
              as_aux_lemma =>
                go_wp2_with fail
                go_roundw
                case rel => exact ⟨some x, i + 1, by omega, rfl, rfl, by go_num, HF, HB4, HX4⟩
                case measure => simp [intOf]; omega
            | some y =>
              simp only [Option.getD_some, Option.isSome_some]
              by_cases hxy : x < y
              · have HF := hid (HNew.out (fun m hm => by cases hm; omega))
                clear HNew HOld
                as_aux_lemma =>
                  go_wp2_with fail
                  go_roundw
                  case rel => exact ⟨some x, i + 1, by omega, rfl, rfl, by go_num, HF, HB4, HX4⟩
                  case measure => simp [intOf]; omega
              · have HF := hid (HOld.out y rfl (by omega))
                clear HNew HOld
                as_aux_lemma =>
                  go_wp2_with fail
                  go_roundw
                  case rel => exact ⟨some y, i + 1, by omega, rfl, rfl, by go_num, HF, HB4, HX4⟩
                  case measure => simp [intOf]; omega
          · rw [decide_eq_false hme]
            rw [decide_eq_false hme] at HIn
            clear hme
            have HF := hid (show EarlTo t l b all (i + 1) s from ⟨HLe.out.yes, fun j hj hjt => by
              rcases Nat.lt_or_ge j i with h | h
              · exact HLe.out.low j h hjt
              · rw [show j = i by omega, HRo.out, HIn.out] at hjt; cases hjt⟩)
            generalize (if m < o.length then (m : Int) else backD t l o b) = r9 at *
            generalize hg1 : s.getD 0 = s1 at *
            generalize hg2 : s.isSome = s2 at *
            have HG1 := hid hg1
            have HG2 := hid hg2
            clear hg1 hg2
            as_aux_lemma =>
              go_wp2_with fail
              go_roundw
              case rel => exact ⟨s, i + 1, by omega, by rw [HG1.out], by rw [HG2.out], by go_num, HF, HB4, HX4⟩
              case measure => simp [intOf]; omega
        · obtain rfl : i = L := by omega
          as_aux_lemma =>
            generalize hg1 : s.getD 0 = s1 at *
            generalize hg2 : s.isSome = s2 at *
            have HG1 := hid hg1
            have HG2 := hid hg2
            clear hg1 hg2
            go_wp2
            go_ret3
            exact ⟨HB.out, .inr ⟨HE.out, s, HSh.out s HLe.out, by rw [HG1.out, HG2.out]; rfl⟩⟩
    | false =>
      have hto : touE t l [] = 0 := by rw [HTn.out]; exact hv
      have HE := hid (drvE_out hto hz)
      rw [hz] at HW
      clear h hs hv hz hto
      go_enter Try.func49, Try.ntmps49
      go_wp2_with fail
      refine HV.out.mono ?_
      rintro e w1 ⟨hb1, rfl⟩
      have HB1 := hid hb1
      clear hb1
      go_wp2_with fail
      refine (HW.out _).mono ?_
      rintro e w2 ⟨rfl, rfl⟩
      go_wp2
      go_ret3
      exact ⟨HB1.out, .inl ⟨by rw [HE.out]; decide, by rw [HE.out]; rfl⟩⟩
  · have hto : touE t l [] ≠ 0 := by rw [HTn.out]; exact hv
    have HE := hid ((drvE_tou (b := b) hto).trans HTn.out)
    obtain ⟨e0, he0⟩ : ∃ e0, stsE t l = e0 := ⟨_, rfl⟩
    rw [he0] at HV hv HE
    have HQ := hid hv
    have hne : (e0 == 0) = false := by simp; exact hv
    have hnn : (e0 != 0) = true := by simp; exact hv
    clear h hs he0 hto
    go_enter Try.func49, Try.ntmps49
    go_wp2_with fail
    refine HV.out.mono ?_
    rintro e w1 ⟨hb1, rfl⟩
    have HB1 := hid hb1
    clear hb1
    go_wp2
    go_ret3
    exact ⟨HB1.out, .inl ⟨by rw [HE.out]; exact HQ.out, by rw [HE.out]; rfl⟩⟩
end Go.Proofs.Ytbffdpcogfmomaa
