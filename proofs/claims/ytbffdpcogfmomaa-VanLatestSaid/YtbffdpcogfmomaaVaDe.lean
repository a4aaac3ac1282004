/- The document's check, Check and Drive: chapter 8. -/
import Derived.Test.YtbffdpcogfmomaaVaDd
set_option linter.unusedVariables false
namespace Go.Proofs.Ytbffdpcogfmomaa
open Go.RowKit

/-- What check answers. -/
def ChkI (t : Tbl) (l : List St) (o : List Int) (b : Int) (w : World) (en : Ending) (w' : World) : Prop :=
  Below w.heap.size w w' ∧ ∃ m : Nat, FirstL t l o b m ∧ en = .returned (.tuple #[.int .i64 (if m < o.length then (m : Int) else backD t l o b), .bool (decide (m = o.length))])
set_option maxRecDepth 100000 in
set_option maxHeartbeats 4000000 in
theorem rCheckI_any (a A B : Option Addr) (t : Tbl) (l : List St) (o : List Int) (b : Int) (cap c d : Nat) (w : World) (h : TabAt w a t) (hs : StsAt w A l) (hi : Ints w B o) (ht : Ways t) (hl : StsOk l t.length) (ho : StopsOk o t.length) (hb : 0 ≤ b ∧ b ≤ 10000) (hol : o.length ≤ 100) :
  Calls Try.prog 82 #[.slice a t.length cap, .slice A l.length c, .slice B o.length d, .int .i64 b] w (ChkI t l o b w) := by
  have HD := hid (rDrive_any a A B t l o b cap c d w h hs hi ht hl ho hb hol)
  have HS := hid hs
  have HLL := hid hl.len
  have HO := hid ho
  have hl7 := ht.len
  clear h hs hi ht hl ho
  go_enter Try.func82, Try.ntmps82
  go_wp2_with fail
  refine HD.out.mono ?_
  rintro e w1 ⟨hb1, V, e1, rfl, hV⟩
  have hVs : o.length = 0 ∨ ∃ g, V = some ⟨g, 0, none⟩ ∧ ∀ k, k < o.length → w1.cell? ⟨g, k * 3, none⟩ = some (.int .i64 (vAt o k)) ∧ w1.cell? ⟨g, k * 3 + 1, none⟩ = some (.int .i64 (ar t l o b k)) := by
    rcases hV.2 with ⟨_, h0⟩ | ⟨g, cap, cur, hv, _⟩
    · exact .inl h0
    · simp only [Value.slice.injEq, true_and] at hv
      obtain ⟨rfl, rfl⟩ := hv
      refine .inr ⟨g, rfl, fun k hk => ?_⟩
      obtain ⟨h1, h2, h3⟩ := visC_at t l o b o.length k hk
      exact ⟨(World.ownsRow.cellAt hV _ (by omega)).trans h1, (World.ownsRow.cellAt hV _ (by omega)).trans h2⟩
  have HV := hid hVs
  have HB1 := hid hb1
  have HS1 := hid (HS.out.below hb1)
  clear hV hVs hb1 HD HS
  go_wp2_with fail
  go_loopw [12] (fun i wr => ∃ (k : Nat), k ≤ o.length ∧ i = .int .i64 k ∧ Hid (∀ j, j < k → ar t l o b j ≤ (stI l (vAt o j)).cl) ∧ Hid (Below w1.heap.size w1 wr)) (fun i _ => o.length - (intOf i).toNat)
  case atStart => exact ⟨0, Nat.zero_le _, rfl, fun j hj => by omega, Below.refl _ _⟩
  case round =>
    obtain ⟨k, hk, rfl, HG, HB⟩ := hrel
    have HBw := hid (HB1.out.trans (HB.out.mono HB1.out.size))
    by_cases hlt : k < o.length
    · rcases HV.out with h0 | ⟨g, rfl, hc⟩
      · omega
      obtain ⟨v0, v1⟩ := hc k hlt
      have c0 := (HB.out.cell (cell_lt v0)).trans v0
      have c1 := (HB.out.cell (cell_lt v1)).trans v1
      have hx := HO.out _ (vAt_mem hlt)
      obtain ⟨b3, o3, rfl, hc3⟩ := (HS1.out.below HB.out).open_ (by rw [HLL.out]; omega)
      have HY := hid (fun (e : ar t l o b k ≤ (stI l (vAt o k)).cl) => show ∀ j, j < k + 1 → ar t l o b j ≤ (stI l (vAt o j)).cl from fun j hj => by
        rcases Nat.lt_or_ge j k with h | h
        · exact HG.out j h
        · rw [show j = k by omega]; exact e)
      have HN := hid (fun (e : (stI l (vAt o k)).cl < ar t l o b k) => show FirstL t l o b k from ⟨hk, HG.out, fun _ => e⟩)
      obtain ⟨x, hx0⟩ : ∃ x, vAt o k = x := ⟨_, rfl⟩
      rw [hx0] at c0 hx HY HN
      obtain ⟨xn, rfl⟩ := Int.eq_ofNat_of_zero_le (show 0 ≤ x by omega)
      obtain ⟨_, s1, _, _⟩ := hc3 xn (by rw [HLL.out]; omega)
      rw [show stAt l xn = stI l (xn : Int) from rfl] at s1
      obtain ⟨a1, ha1⟩ : ∃ a1, ar t l o b k = a1 := ⟨_, rfl⟩
      obtain ⟨s9, hs9⟩ : ∃ s9, (stI l (xn : Int)).cl = s9 := ⟨_, rfl⟩
      rw [ha1] at c1 HY HN
      rw [hs9] at s1 HY HN
      have q3 : (xn : Int) < (l.length : Int) := by rw [HLL.out]; exact hx.2
      clear v0 v1 hc hc3 ha1 hs9 hx0
      by_cases hc : s9 < a1
      · have HZ := hid (HN.out hc)
        clear HY HN
        as_aux_lemma =>
          go_wp2_with fail
          go_quiet (fail)
          go_wp2
          go_ret2
          exact ⟨below_drewN HBw.out _, k, HZ.out, by rw [if_pos hlt, decide_eq_false (by omega)]; rfl⟩
      · have hc' : a1 ≤ s9 := by omega
        have HZ := hid (HY.out hc')
        clear HY HN hc
        as_aux_lemma =>
          go_wp2_with fail
          go_quiet (fail)
          go_wp2
          go_roundw
          case rel => exact ⟨k + 1, by omega, by go_num, HZ, below_drewN HB.out _⟩
          case measure => simp [intOf]; omega
    · obtain rfl : k = o.length := by omega
      have HZ := hid (show FirstL t l o b o.length from ⟨Nat.le_refl _, HG.out, fun h => by omega⟩)
      go_wp2
      go_ret2
      exact ⟨HBw.out, o.length, HZ.out, by rw [if_neg (by omega), decide_eq_true rfl]; rfl⟩
theorem drvE_zin {t : Tbl} {l : List St} {o : List Int} {b : Int} (h : touE t l o = 0) (h2 : zin b 0 10000 = true) : drvE t l o b = 0 := by unfold drvE; rw [if_pos h, if_pos h2]
theorem drvE_out {t : Tbl} {l : List St} {o : List Int} {b : Int} (h : touE t l o = 0) (h2 : zin b 0 10000 = false) : drvE t l o b = 1 := by unfold drvE; rw [if_pos h, if_neg (by simp [h2])]
theorem drvE_tou {t : Tbl} {l : List St} {o : List Int} {b : Int} (h : touE t l o ≠ 0) : drvE t l o b = touE t l o := by unfold drvE; rw [if_neg h]
set_option maxRecDepth 100000 in
set_option maxHeartbeats 4000000 in
theorem rCheck_any (a A B : Option Addr) (t : Tbl) (l : List St) (o : List Int) (b : Int) (cap c d : Nat) (w : World) (h : TabAt w a t) (hs : StsAt w A l) (hi : Ints w B o) (hol : o.length ≤ 100) :
  Calls Try.prog 47 #[.slice a t.length cap, .slice A l.length c, .slice B o.length d, .int .i64 b] w (ChkR t l o b w) := by
  have HV := hid (rToured_any a A B t l o cap c d w h hs hi)
  by_cases hv : touE t l o = 0
  · rw [hv] at HV
    have HW := hid (fun (W : World) => rWithin8_any b 0 10000 W)
    cases hz : zin b 0 10000 with
    | true =>
      have hdv := drvE_zin hv hz
      obtain ⟨ht, hl, ho, _, hb⟩ := drvE_ok hdv
      have HD := hid (fun (W : World) (hb2 : Below w.heap.size w W) => rCheckI_any a A B t l o b cap c d W (h.below hb2) (hs.below hb2) (hi.below hb2) ht hl ho hb hol)
      have HE := hid hdv
      rw [hz] at HW
      clear h hs hi hv ht hl ho hb hz hdv
      go_enter Try.func47, Try.ntmps47
      go_wp2_with fail
      refine HV.out.mono ?_
      rintro e w1 ⟨hb1, rfl⟩
      have HB1 := hid hb1
      have HC := hid (HD.out w1 hb1)
      clear hb1
      go_wp2_with fail
      refine (HW.out _).mono ?_
      rintro e w2 ⟨rfl, rfl⟩
      go_wp2_with fail
      refine HC.out.mono ?_
      rintro e w3 ⟨hb3, m, hm, rfl⟩
      have HB3 := hid (HB1.out.trans (hb3.mono HB1.out.size))
      have HM := hid hm
      have hml := hm.le
      clear hb3 hm HC HD
      by_cases hlt : m < o.length
      · rw [if_pos hlt, decide_eq_false (show ¬ m = o.length by omega)]
        go_wp2
        go_ret2
        exact ⟨HB3.out, .inr ⟨HE.out, m, HM.out, by rw [if_pos hlt, if_pos hlt]; rfl⟩⟩
      · rw [if_neg hlt, decide_eq_true (show m = o.length by omega)]
        go_wp2
        go_ret2
        exact ⟨HB3.out, .inr ⟨HE.out, m, HM.out, by rw [if_neg hlt, if_neg hlt]; rfl⟩⟩
    | false =>
      have HE := hid (drvE_out hv hz)
      rw [hz] at HW
      clear h hs hi hv hz
      go_enter Try.func47, Try.ntmps47
      go_wp2_with fail
      refine HV.out.mono ?_
      rintro e w1 ⟨hb1, rfl⟩
      have HB1 := hid hb1
      clear hb1
      go_wp2_with fail
      refine (HW.out _).mono ?_
      rintro e w2 ⟨rfl, rfl⟩
      go_wp2
      go_ret2
      exact ⟨HB1.out, .inl ⟨by rw [HE.out]; decide, by rw [HE.out]; rfl⟩⟩
  · have HE := hid (drvE_tou (b := b) hv)
    obtain ⟨e0, he0⟩ : ∃ e0, touE t l o = e0 := ⟨_, rfl⟩
    rw [he0] at HV hv HE
    have HQ := hid hv
    have hne : (e0 == 0) = false := by simp; exact hv
    have hnn : (e0 != 0) = true := by simp; exact hv
    clear h hs hi he0
    go_enter Try.func47, Try.ntmps47
    go_wp2_with fail
    refine HV.out.mono ?_
    rintro e w1 ⟨hb1, rfl⟩
    have HB1 := hid hb1
    clear hb1
    go_wp2
    go_ret2
    exact ⟨HB1.out, .inl ⟨by rw [HE.out]; exact HQ.out, by rw [HE.out]; rfl⟩⟩
/-- What the document's Drive answers. -/
def DriveRR (t : Tbl) (l : List St) (o : List Int) (b : Int) (w : World) (en : Ending) (w' : World) : Prop :=
  Below w.heap.size w w' ∧ ((drvE t l o b ≠ 0 ∧ en = .returned (.tuple #[.slice none 0 0, .int .i64 0, .int .i64 (drvE t l o b)])) ∨
    (drvE t l o b = 0 ∧ ∃ V e, en = .returned (.tuple #[.slice V o.length e, .int .i64 (backD t l o b), .int .i64 0]) ∧ w'.ownsRow w.heap.size 60 3 (.slice V o.length e) o.length (visC t l o b o.length)))
set_option maxRecDepth 100000 in
set_option maxHeartbeats 4000000 in
theorem rDriveR_any (a A B : Option Addr) (t : Tbl) (l : List St) (o : List Int) (b : Int) (cap c d : Nat) (w : World) (h : TabAt w a t) (hs : StsAt w A l) (hi : Ints w B o) (hol : o.length ≤ 100) :
  Calls Try.prog 43 #[.slice a t.length cap, .slice A l.length c, .slice B o.length d, .int .i64 b] w (DriveRR t l o b w) := by
  have HV := hid (rToured_any a A B t l o cap c d w h hs hi)
  by_cases hv : touE t l o = 0
  · rw [hv] at HV
    have HW := hid (fun (W : World) => rWithin8_any b 0 10000 W)
    cases hz : zin b 0 10000 with
    | true =>
      have hdv := drvE_zin hv hz
      obtain ⟨ht, hl, ho, _, hb⟩ := drvE_ok hdv
      have HD := hid (fun (W : World) (hb2 : Below w.heap.size w W) => rDrive_any a A B t l o b cap c d W (h.below hb2) (hs.below hb2) (hi.below hb2) ht hl ho hb hol)
      have HE := hid hdv
      rw [hz] at HW
      clear h hs hi hv ht hl ho hb hz hdv
      go_enter Try.func43, Try.ntmps43
      go_wp2_with fail
      refine HV.out.mono ?_
      rintro e w1 ⟨hb1, rfl⟩
      have HB1 := hid hb1
      have HC := hid (HD.out w1 hb1)
      have hws := hb1.size
      clear hb1
      go_wp2_with fail
      refine (HW.out _).mono ?_
      rintro e w2 ⟨rfl, rfl⟩
      go_wp2_with fail
      refine HC.out.mono ?_
      rintro e w3 ⟨hb3, V, e2, rfl, hV⟩
      have HB3 := hid (HB1.out.trans (hb3.mono HB1.out.size))
      have HVV := hid (row_lower hV hws)
      clear hb3 hV HC HD
      go_wp2
      go_ret3
      exact ⟨HB3.out, .inr ⟨HE.out, V, e2, rfl, HVV.out⟩⟩
    | false =>
      have HE := hid (drvE_out hv hz)
      rw [hz] at HW
      clear h hs hi hv hz
      go_enter Try.func43, Try.ntmps43
      go_wp2_with fail
      refine HV.out.mono ?_
      rintro e w1 ⟨hb1, rfl⟩
      have HB1 := hid hb1
      clear hb1
      go_wp2_with fail
      refine (HW.out _).mono ?_
      rintro e w2 ⟨rfl, rfl⟩
      go_wp2
      go_ret3
      exact ⟨HB1.out, .inl ⟨by rw [HE.out]; decide, by rw [HE.out]; rfl⟩⟩
  · have HE := hid (drvE_tou (b := b) hv)
    obtain ⟨e0, he0⟩ : ∃ e0, touE t l o = e0 := ⟨_, rfl⟩
    rw [he0] at HV hv HE
    have HQ := hid hv
    have hne : (e0 == 0) = false := by simp; exact hv
    have hnn : (e0 != 0) = true := by simp; exact hv
    clear h hs hi he0
    go_enter Try.func43, Try.ntmps43
    go_wp2_with fail
    refine HV.out.mono ?_
    rintro e w1 ⟨hb1, rfl⟩
    have HB1 := hid hb1
    clear hb1
    go_wp2
    go_ret3
    exact ⟨HB1.out, .inl ⟨by rw [HE.out]; exact HQ.out, by rw [HE.out]; rfl⟩⟩
end Go.Proofs.Ytbffdpcogfmomaa
