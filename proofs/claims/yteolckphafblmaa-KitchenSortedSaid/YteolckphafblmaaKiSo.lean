/- Sorted: package kitchen, and the document's own. -/
import Derived.Test.YteolckphafblmaaKiE
import Derived.Test.YteolckphafblmaaKiH
import Derived.Test.YteolckphafblmaaKiBf
import Derived.Deep.RegionHeld3
set_option linter.unusedVariables false
namespace Go.Proofs.Yteolckphafblmaa
open Go.RowKit

def sortV (l : List Bt) (o : List Int) : Bool × Int := if chkE l o = 0 then (sortedO l o, 0) else (false, chkE l o)
def BolK (w : World) (v : Bool × Int) (en : Ending) (w' : World) : Prop := Below w.heap.size w w' ∧ en = .returned (.tuple #[.bool v.1, .int .i64 v.2])
theorem sorted_iff (l : List Bt) (o : List Int) : sortedO l o = true ↔ ∀ i j, i < j → j < o.length → befB (btAt (seqO l o) i) (btAt (seqO l o) j) = true := by
  unfold sortedO
  rw [decide_eq_true_iff, List.pairwise_iff_getElem]
  have hl := seqO_len l o
  constructor
  · intro h i j hij hj
    have := h i j (by omega) (by omega) hij
    simpa [btAt, show i < (seqO l o).length by omega, show j < (seqO l o).length by omega] using this
  · intro h i j hi hj hij
    have := h i j hij (by omega)
    simpa [btAt, hi, hj] using this
theorem sorted_no (l : List Bt) (o : List Int) (i j : Nat) (hij : i < j) (hj : j < o.length) (h : befB (btAt (seqO l o) i) (btAt (seqO l o) j) = false) : sortedO l o = false := by
  rw [Bool.eq_false_iff]
  intro e
  have := (sorted_iff l o).1 e i j hij hj
  rw [h] at this; cases this
/-- The six cells of two places of an order. -/
def SoS (w : World) (b2 p q b r t : Nat) (n m : Nat) (x y : Bt) (w' : World) : Prop := w'.cell? ⟨b2, p, none⟩ = some (.int .i64 (n : Int)) ∧ w'.cell? ⟨b2, q, none⟩ = some (.int .i64 (m : Int)) ∧ w'.cell? ⟨b, r, none⟩ = some (.int .i64 x.1) ∧ w'.cell? ⟨b, r + 1, none⟩ = some (.int .i64 x.2) ∧ w'.cell? ⟨b, t, none⟩ = some (.int .i64 y.1) ∧ w'.cell? ⟨b, t + 1, none⟩ = some (.int .i64 y.2) ∧ Below w.heap.size w w'
theorem SoS.keep {w w1 w2 : World} {b2 p q b r t n m : Nat} {x y : Bt} (h : SoS w b2 p q b r t n m x y w1) (hb : Below w1.heap.size w1 w2) : SoS w b2 p q b r t n m x y w2 := by
  obtain ⟨h0, h1, h2, h3, h4, h5, h6⟩ := h
  exact ⟨by rw [hb.cell (cell_lt h0)]; exact h0, by rw [hb.cell (cell_lt h1)]; exact h1, by rw [hb.cell (cell_lt h2)]; exact h2, by rw [hb.cell (cell_lt h3)]; exact h3, by rw [hb.cell (cell_lt h4)]; exact h4, by rw [hb.cell (cell_lt h5)]; exact h5, h6.trans (hb.mono h6.size)⟩
theorem SoS.drew {w w1 : World} {b2 p q b r t n m : Nat} {x y : Bt} (h : SoS w b2 p q b r t n m x y w1) : SoS w b2 p q b r t n m x y w1.drew := h.keep (Below.refl _ _).drew
set_option maxRecDepth 100000 in
set_option maxHeartbeats 4000000 in
theorem kSorted_any (a A : Option Addr) (l : List Bt) (o : List Int) (cap oc : Nat) (w : World) (h : Bts w a l) (hO : Ints w A o) : Calls Try.prog 32 #[.slice a l.length cap, .slice A o.length oc] w (BolK w (sortV l o)) := by
  have hlen := h.len
  have holen := hO.len
  have HV := hid (kCheck_any a A l o cap oc w h hO)
  have HE := hid (show sortV l o = if chkE l o = 0 then (sortedO l o, 0) else (false, chkE l o) from rfl)
  by_cases h0 : chkE l o = 0
  · have HE2 := hid ((HE.out).trans (if_pos h0))
    obtain ⟨hl, ho⟩ := chkE_ok h0
    have ho7 : o.length ≤ 7 := by rw [ho.len]; exact hl.len
    have HP := hid (fun W (hb : Below w.heap.size w W) i (hi : i < o.length) => kr_place (h.below hb) (hO.below hb) hl ho i hi)
    have HSi := hid (sorted_iff l o)
    have HSn := hid (fun i j hij hj hh => sorted_no l o i j hij hj hh)
    rw [h0] at HV
    clear h hO h0 HE hl ho
    generalize seqO l o = s at *
    go_enter Try.func32, Try.ntmps32
    go_wp2_with fail
    refine HV.out.mono ?_
    rintro e w1 ⟨hb1, rfl⟩
    have P1 := hid hb1
    clear hb1
    go_wp2
    go_loopw [17] (fun i wr => ∃ (k : Nat), k ≤ o.length ∧ i = .int .i64 k ∧ Hid (∀ i j, i < j → j < k → befB (btAt s i) (btAt s j) = true) ∧ Hid (Below w.heap.size w wr)) (fun i _ => o.length - (intOf i).toNat)
    case atStart => exact ⟨0, Nat.zero_le _, rfl, fun i j h1 h2 => by omega, P1⟩
    case round =>
      obtain ⟨k, hk, rfl, HT, HB⟩ := hrel
      by_cases hlt : k < o.length
      · have hd : decide (k < o.length) = true := decide_eq_true hlt
        have hk' : (k : Int) < (o.length : Int) := by omega
        have HB0 := HB
        clear P1 HB
        go_wp2
        obtain ⟨wo, rfl⟩ : ∃ wo : World, wo = wr := ⟨_, rfl⟩
        go_loopw [21] (fun i wr => ∃ (q : Nat), 0 ≤ q ∧ q ≤ k ∧ i = .int .i64 q ∧ Hid (∀ i, i < q → befB (btAt s i) (btAt s k) = true) ∧ Hid (Below w.heap.size w wr)) (fun i _ => k - (intOf i).toNat)
        case atStart => exact ⟨0, Nat.le_refl _, Nat.zero_le _, by first | rfl | go_num, fun i hi => absurd hi (Nat.not_lt_zero _), HB0⟩
        case round =>
          obtain ⟨q, hql, hq, rfl, HQ, HB⟩ := hrel
          by_cases hlq : q < k
          · have hdq : decide (q < k) = true := decide_eq_true hlq
            obtain ⟨n, b, off, b2, off2, hn, rfl, rfl, c0, c1, c2, _⟩ := HP.out _ HB.out q (by omega)
            obtain ⟨m, b', off', b2', off2', hm, eb, eB, d0, d1, d2, _⟩ := HP.out _ HB.out k (by omega)
            cases eb
            cases eB
            have i0 : (0 : Int) ≤ (k : Int) := by omega
            have i1 : (0 : Int) ≤ (q : Int) := by omega
            have i2 : (q : Int) < (o.length : Int) := by omega
            have i3 : (0 : Int) ≤ (n : Int) := by omega
            have i4 : (0 : Int) ≤ (m : Int) := by omega
            have i5 : (n : Int) < (l.length : Int) := by omega
            have i6 : (m : Int) < (l.length : Int) := by omega
            have HNx := hid (fun hh => HSn.out q k (by omega) (by omega) hh)
            have HS0 := hid (show SoS w b2 (off2 + q) (off2 + k) b (off + n * 2) (off + m * 2) n m (btAt s q) (btAt s k) wr from ⟨c0, d0, c1, c2, d1, d2, HB.out⟩)
            obtain ⟨x, hxe⟩ : ∃ x, btAt s q = x := ⟨_, rfl⟩
            rw [hxe] at c1 c2 HNx HS0
            obtain ⟨y, hye⟩ : ∃ y, btAt s k = y := ⟨_, rfl⟩
            rw [hye] at d1 d2 HNx HS0
            have HXE := hid hxe
            have HYE := hid hye
            clear HP HSi HSn hxe hye
            obtain ⟨x1, x2⟩ := x
            obtain ⟨y1, y2⟩ := y
            dsimp only at c1 c2 d1 d2
            go_wp2_with fail
            go_region_held3 (fun w' => w'.cell? ⟨b2, off2 + q, none⟩ = some (.int .i64 (n : Int)) ∧ w'.cell? ⟨b2, off2 + k, none⟩ = some (.int .i64 (m : Int)) ∧ w'.cell? ⟨b, off + n * 2, none⟩ = some (.int .i64 x1) ∧ w'.cell? ⟨b, off + n * 2 + 1, none⟩ = some (.int .i64 x2) ∧ w'.cell? ⟨b, off + m * 2, none⟩ = some (.int .i64 y1) ∧ w'.cell? ⟨b, off + m * 2 + 1, none⟩ = some (.int .i64 y2) ∧ Below w.heap.size w w') (first | assumption | exact HS0.out.drew | exact HS0.out | exact SoS.keep (x := (x1, x2)) (y := (y1, y2)) (by assumption) (by assumption))
              (first | (go_at_call 30; refine (kBefore_any _ _ _ _ _).mono ?_; rintro en w4 ⟨hb4, rfl⟩))
            rename w4.cell? _ = _ ∧ _ => hHeld
            have HB4 := hid hHeld.2.2.2.2.2.2
            clear hHeld hb4 c0 c1 c2 d0 d1 d2 HS0
            cases hbf : befB (x1, x2) (y1, y2) with
            | false =>
              have HR := hid (HNx.out hbf)
              clear hbf HNx
              go_wp2
              go_ret2
              exact ⟨HB4.out, by rw [HE2.out, HR.out]; first | rfl | skip⟩
            | true =>
              have HQ2 := hid (show ∀ i, i < q + 1 → befB (btAt s i) (btAt s k) = true from fun i hi => by
                rcases Nat.lt_or_ge i q with hh | hh
                · exact HQ.out i hh
                · rw [show i = q by omega, HXE.out, HYE.out]; exact hbf)
              clear hbf HNx
              go_wp2
              go_roundw
              case rel => exact ⟨q + 1, by omega, by omega, by go_num, HQ2, HB4⟩
              case measure => simp [intOf]; omega
          · obtain rfl : k = q := by omega
            have hdq : decide (k < k) = false := decide_eq_false (Nat.lt_irrefl _)
            have HT2 := hid (show ∀ i j, i < j → j < k + 1 → befB (btAt s i) (btAt s j) = true from fun i j h1 h2 => by
              rcases Nat.lt_or_ge j k with hh | hh
              · exact HT.out i j h1 hh
              · rw [show j = k by omega] at h1 ⊢; exact HQ.out i h1)
            go_wp2
            go_roundw
            case rel => exact ⟨k + 1, by omega, by go_num, HT2, HB⟩
            case measure => simp [intOf]; omega
      · obtain rfl : k = o.length := by omega
        have hd : decide (o.length < o.length) = false := decide_eq_false (Nat.lt_irrefl _)
        have HR := hid (HSi.out.2 (fun i j h1 h2 => HT.out i j h1 h2))
        go_wp2
        go_ret2
        exact ⟨HB.out, by rw [HE2.out, HR.out]; first | rfl | skip⟩
  · have HE2 := hid ((HE.out).trans (if_neg h0))
    have h1 : (chkE l o != 0) = true := by simp [h0]
    clear h hO h0 HE
    generalize chkE l o = v at *
    go_enter Try.func32, Try.ntmps32
    go_wp2_with fail
    refine HV.out.mono ?_
    rintro e w1 ⟨hb1, rfl⟩
    have P1 := hid hb1
    clear hb1
    go_wp2
    go_ret2
    exact ⟨P1.out, by rw [HE2.out]; first | rfl | skip⟩
set_option maxRecDepth 100000 in
set_option maxHeartbeats 4000000 in
theorem krSorted_any (a A : Option Addr) (l : List Bt) (o : List Int) (cap oc : Nat) (w : World) (h : Bts w a l) (hO : Ints w A o) : Calls Try.prog 33 #[.slice a l.length cap, .slice A o.length oc] w (BolK w (sortV l o)) := by
  have hlen := h.len
  have holen := hO.len
  have HV := hid (krOrdered_any a A l o cap oc w h hO)
  have HE := hid (show sortV l o = if chkE l o = 0 then (sortedO l o, 0) else (false, chkE l o) from rfl)
  by_cases h0 : chkE l o = 0
  · have HE2 := hid ((HE.out).trans (if_pos h0))
    obtain ⟨hl, ho⟩ := chkE_ok h0
    have ho7 : o.length ≤ 7 := by rw [ho.len]; exact hl.len
    have HP := hid (fun W (hb : Below w.heap.size w W) i (hi : i < o.length) => kr_place (h.below hb) (hO.below hb) hl ho i hi)
    have HSi := hid (sorted_iff l o)
    have HSn := hid (fun i j hij hj hh => sorted_no l o i j hij hj hh)
    rw [h0] at HV
    clear h hO h0 HE hl ho
    generalize seqO l o = s at *
    go_enter Try.func33, Try.ntmps33
    go_wp2_with fail
    refine HV.out.mono ?_
    rintro e w1 ⟨rfl, rfl⟩
    have P1 := hid (Below.refl w.heap.size w)
    go_wp2
    go_loopw [7] (fun i wr => ∃ (k : Nat), k ≤ o.length ∧ i = .int .i64 k ∧ Hid (∀ i j, i < k → i < j → j < o.length → befB (btAt s i) (btAt s j) = true) ∧ Hid (Below w.heap.size w wr)) (fun i _ => o.length - (intOf i).toNat)
    case atStart => exact ⟨0, Nat.zero_le _, rfl, fun i j h1 h2 h3 => by omega, P1⟩
    case round =>
      obtain ⟨k, hk, rfl, HT, HB⟩ := hrel
      by_cases hlt : k < o.length
      · have hd : decide (k < o.length) = true := decide_eq_true hlt
        have hk' : (k : Int) < (o.length : Int) := by omega
        have HB0 := HB
        clear P1 HB
        go_wp2
        obtain ⟨wo, rfl⟩ : ∃ wo : World, wo = wr := ⟨_, rfl⟩
        go_loopw [8] (fun i wr => ∃ (q : Nat), k + 1 ≤ q ∧ q ≤ o.length ∧ i = .int .i64 q ∧ Hid (∀ j, k < j → j < q → befB (btAt s k) (btAt s j) = true) ∧ Hid (Below w.heap.size w wr)) (fun i _ => o.length - (intOf i).toNat)
        case atStart => exact ⟨k + 1, Nat.le_refl _, by omega, by first | rfl | go_num, fun j h1 h2 => by omega, HB0⟩
        case round =>
          obtain ⟨q, hql, hq, rfl, HQ, HB⟩ := hrel
          by_cases hlq : q < o.length
          · have hdq : decide (q < o.length) = true := decide_eq_true hlq
            obtain ⟨n, b, off, b2, off2, hn, rfl, rfl, c0, c1, c2, _⟩ := HP.out _ HB.out k (by omega)
            obtain ⟨m, b', off', b2', off2', hm, eb, eB, d0, d1, d2, _⟩ := HP.out _ HB.out q (by omega)
            cases eb
            cases eB
            have i0 : (0 : Int) ≤ (k : Int) := by omega
            have i1 : (0 : Int) ≤ (q : Int) := by omega
            have i2 : (q : Int) < (o.length : Int) := by omega
            have i3 : (0 : Int) ≤ (n : Int) := by omega
            have i4 : (0 : Int) ≤ (m : Int) := by omega
            have i5 : (n : Int) < (l.length : Int) := by omega
            have i6 : (m : Int) < (l.length : Int) := by omega
            have HNx := hid (fun hh => HSn.out k q (by omega) (by omega) hh)
            have HS0 := hid (show SoS w b2 (off2 + k) (off2 + q) b (off + n * 2) (off + m * 2) n m (btAt s k) (btAt s q) wr from ⟨c0, d0, c1, c2, d1, d2, HB.out⟩)
            obtain ⟨x, hxe⟩ : ∃ x, btAt s k = x := ⟨_, rfl⟩
            rw [hxe] at c1 c2 HNx HS0
            obtain ⟨y, hye⟩ : ∃ y, btAt s q = y := ⟨_, rfl⟩
            rw [hye] at d1 d2 HNx HS0
            have HXE := hid hxe
            have HYE := hid hye
            clear HP HSi HSn hxe hye
            obtain ⟨x1, x2⟩ := x
            obtain ⟨y1, y2⟩ := y
            dsimp only at c1 c2 d1 d2
            go_wp2_with fail
            go_region_held3 (fun w' => w'.cell? ⟨b2, off2 + k, none⟩ = some (.int .i64 (n : Int)) ∧ w'.cell? ⟨b2, off2 + q, none⟩ = some (.int .i64 (m : Int)) ∧ w'.cell? ⟨b, off + n * 2, none⟩ = some (.int .i64 x1) ∧ w'.cell? ⟨b, off + n * 2 + 1, none⟩ = some (.int .i64 x2) ∧ w'.cell? ⟨b, off + m * 2, none⟩ = some (.int .i64 y1) ∧ w'.cell? ⟨b, off + m * 2 + 1, none⟩ = some (.int .i64 y2) ∧ Below w.heap.size w w') (first | assumption | exact HS0.out.drew | exact HS0.out | exact SoS.keep (x := (x1, x2)) (y := (y1, y2)) (by assumption) (by assumption))
              (first | (go_at_call 31; refine (krBefore_any _ _ _ _ _).mono ?_; rintro en w4 ⟨hb4, rfl⟩))
            rename w4.cell? _ = _ ∧ _ => hHeld
            have HB4 := hid hHeld.2.2.2.2.2.2
            clear hHeld hb4 c0 c1 c2 d0 d1 d2 HS0
            cases hbf : befB (x1, x2) (y1, y2) with
            | false =>
              have HR := hid (HNx.out hbf)
              clear hbf HNx
              go_wp2
              go_ret2
              exact ⟨HB4.out, by rw [HE2.out, HR.out]; first | rfl | skip⟩
            | true =>
              have HQ2 := hid (show ∀ j, k < j → j < q + 1 → befB (btAt s k) (btAt s j) = true from fun j h1 h2 => by
                rcases Nat.lt_or_ge j q with hh | hh
                · exact HQ.out j h1 hh
                · rw [show j = q by omega, HXE.out, HYE.out]; exact hbf)
              clear hbf HNx
              go_wp2
              go_roundw
              case rel => exact ⟨q + 1, by omega, by omega, by go_num, HQ2, HB4⟩
              case measure => simp [intOf]; omega
          · obtain rfl : q = o.length := by omega
            have hdq : decide (o.length < o.length) = false := decide_eq_false (Nat.lt_irrefl _)
            have HT2 := hid (show ∀ i j, i < k + 1 → i < j → j < o.length → befB (btAt s i) (btAt s j) = true from fun i j h1 h2 h3 => by
              rcases Nat.lt_or_ge i k with hh | hh
              · exact HT.out i j hh h2 h3
              · rw [show i = k by omega] at h2 ⊢; exact HQ.out j h2 h3)
            go_wp2
            go_roundw
            case rel => exact ⟨k + 1, by omega, by go_num, HT2, HB⟩
            case measure => simp [intOf]; omega
      · obtain rfl : k = o.length := by omega
        have hd : decide (o.length < o.length) = false := decide_eq_false (Nat.lt_irrefl _)
        have HR := hid (HSi.out.2 (fun i j h1 h2 => HT.out i j (by omega) h1 h2))
        go_wp2
        go_ret2
        exact ⟨HB.out, by rw [HE2.out, HR.out]; first | rfl | skip⟩
  · have HE2 := hid ((HE.out).trans (if_neg h0))
    have h1 : (chkE l o != 0) = true := by simp [h0]
    clear h hO h0 HE
    generalize chkE l o = v at *
    go_enter Try.func33, Try.ntmps33
    go_wp2_with fail
    refine HV.out.mono ?_
    rintro e w1 ⟨rfl, rfl⟩
    have P1 := hid (Below.refl w.heap.size w)
    go_wp2
    go_ret2
    exact ⟨P1.out, by rw [HE2.out]; first | rfl | skip⟩
end Go.Proofs.Yteolckphafblmaa
