/- Run and Idle: package kitchen, and the document's own. -/
import Derived.Test.YteolckphafblmaaKiH
set_option linter.unusedVariables false
namespace Go.Proofs.Yteolckphafblmaa
open Go.RowKit

def RunQ (w : World) (o : List Int) (s : List Bt) (en : Ending) (w' : World) : Prop := Below w.heap.size w w' ∧ ∃ A c, en = .returned (.tuple #[.slice A o.length c, .int .i64 0]) ∧ Shs w' A o s
def ErrQ (w : World) (e : Int) (en : Ending) (w' : World) : Prop := Below w.heap.size w w' ∧ en = .returned (.tuple #[.slice none 0 0, .int .i64 e])
def idleV (l : List Bt) (o : List Int) : Int × Int := if chkE l o = 0 then (idleTo (seqO l o) o.length, 0) else (0, chkE l o)
theorem idle_bd {s : List Bt} (h : ∀ i, i < s.length → (0 ≤ (btAt s i).1 ∧ (btAt s i).1 ≤ 1000) ∧ 0 ≤ (btAt s i).2 ∧ (btAt s i).2 ≤ 1000) (k : Nat) (hk : k ≤ s.length) : -10000 * k ≤ idleTo s k ∧ idleTo s k ≤ 2000 * k := by
  have h1 := idle_work s k
  have h2 := packTo_bd h k hk
  have h3 : 0 ≤ packSum s k ∧ packSum s k ≤ 1000 * k := by
    clear h1 h2
    induction k with
    | zero => simp [packSum]
    | succ k ih => have := ih (by omega); have := h k (by omega); simp only [packSum]; omega
  omega
set_option maxRecDepth 100000 in
set_option maxHeartbeats 1000000 in
theorem kRunP_ok (a A : Option Addr) (l : List Bt) (o : List Int) (cap oc : Nat) (w : World) (h : Bts w a l) (hO : Ints w A o) (h0 : chkE l o = 0) : Calls Try.prog 15 #[.slice a l.length cap, .slice A o.length oc] w (RunQ w o (seqO l o)) := by
  have hlen := h.len
  have holen := hO.len
  have HV := hid (kCheck_any a A l o cap oc w h hO)
  obtain ⟨hl, ho⟩ := chkE_ok h0
  have HR := hid (fun W (hb : Below w.heap.size w W) => kRun_any a A l o cap oc W (h.below hb) (hO.below hb) hl ho)
  rw [h0] at HV
  clear h hO h0 hl ho
  go_enter Try.func15, Try.ntmps15
  go_wp2_with fail
  refine HV.out.mono ?_
  rintro e w1 ⟨hb1, rfl⟩
  have P1 := hid hb1
  clear hb1
  go_wp2_with fail
  refine (HR.out _ P1.out).mono ?_
  rintro e w2 ⟨hb2, A2, c2, rfl, hs2⟩
  have P2 := hid (P1.out.trans (hb2.mono P1.out.size))
  have S2 := hid hs2
  clear hb2 hs2
  go_wp2
  go_ret2
  exact ⟨P2.out, A2, c2, rfl, S2.out⟩
set_option maxRecDepth 100000 in
set_option maxHeartbeats 1000000 in
theorem kRunP_bad (a A : Option Addr) (l : List Bt) (o : List Int) (cap oc : Nat) (w : World) (h : Bts w a l) (hO : Ints w A o) (h0 : ¬ chkE l o = 0) : Calls Try.prog 15 #[.slice a l.length cap, .slice A o.length oc] w (ErrQ w (chkE l o)) := by
  have hlen := h.len
  have holen := hO.len
  have HV := hid (kCheck_any a A l o cap oc w h hO)
  have h1 : (chkE l o != 0) = true := by simp [h0]
  clear h hO h0
  generalize chkE l o = v at *
  go_enter Try.func15, Try.ntmps15
  go_wp2_with fail
  refine HV.out.mono ?_
  rintro e w1 ⟨hb1, rfl⟩
  have P1 := hid hb1
  clear hb1
  go_wp2
  go_ret2
  exact ⟨P1.out, rfl⟩
set_option maxRecDepth 100000 in
set_option maxHeartbeats 2000000 in
theorem kIdle_any (a A : Option Addr) (l : List Bt) (o : List Int) (cap oc : Nat) (w : World) (h : Bts w a l) (hO : Ints w A o) : Calls Try.prog 19 #[.slice a l.length cap, .slice A o.length oc] w (PairK w (idleV l o)) := by
  have hlen := h.len
  have holen := hO.len
  have HV := hid (kCheck_any a A l o cap oc w h hO)
  have HE := hid (show idleV l o = if chkE l o = 0 then (idleTo (seqO l o) o.length, 0) else (0, chkE l o) from rfl)
  by_cases h0 : chkE l o = 0
  · have HE2 := hid ((HE.out).trans (if_pos h0))
    obtain ⟨hl, ho⟩ := chkE_ok h0
    have ho7 : o.length ≤ 7 := by rw [ho.len]; exact hl.len
    have HR := hid (fun W (hb : Below w.heap.size w W) => kRun_any a A l o cap oc W (h.below hb) (hO.below hb) hl ho)
    have HC := hid (fun k (hk : k ≤ o.length) => cookTo_bd (seq_ok hl ho) k (by rw [seqO_len]; exact hk))
    have HP := hid (fun k (hk : k ≤ o.length) => packTo_bd (seq_ok hl ho) k (by rw [seqO_len]; exact hk))
    have HI := hid (fun k (hk : k ≤ o.length) => idle_bd (seq_ok hl ho) k (by rw [seqO_len]; exact hk))
    rw [h0] at HV
    clear h hO h0 HE hl ho
    generalize seqO l o = s at *
    go_enter Try.func19, Try.ntmps19
    go_wp2_with fail
    refine HV.out.mono ?_
    rintro e w1 ⟨hb1, rfl⟩
    have P1 := hid hb1
    clear hb1
    go_wp2_with fail
    refine (HR.out _ P1.out).mono ?_
    rintro e w2 ⟨hb2, A2, c2, rfl, hs2⟩
    have P2 := hid (P1.out.trans (hb2.mono P1.out.size))
    have S2 := hid hs2
    clear hb2 hs2 HR HV
    go_wp2
    go_loopw [7, 8, 21] (fun t u i wr => ∃ (k : Nat), k ≤ o.length ∧ i = .int .i64 k ∧ t = .int .i64 (idleTo s k) ∧ u = .int .i64 (packTo s k) ∧ Hid (Below w2.heap.size w2 wr)) (fun _ _ i _ => o.length - (intOf i).toNat)
    case atStart => exact ⟨0, Nat.zero_le _, rfl, rfl, rfl, Below.refl _ _⟩
    case round =>
      obtain ⟨k, hk, rfl, rfl, rfl, HB⟩ := hrel
      have e2 := HP.out k hk
      have e3 := HI.out k hk
      by_cases hlt : k < o.length
      · rcases (S2.out.below HB.out).at_ with e | ⟨b, off, rfl, hc⟩
        · rw [e] at hlt; simp at hlt
        obtain ⟨c0, c1, c2', c3, c4⟩ := hc k hlt
        have e4 := HC.out (k + 1) (by omega)
        have e5 := HP.out (k + 1) (by omega)
        have hd : decide (k < o.length) = true := decide_eq_true hlt
        have HN := hid (show idleTo s (k + 1) = idleTo s k + (max (cookTo s (k + 1)) (packTo s k) - packTo s k) from rfl)
        have hsz := HB.out.size
        have HB2 := hid (HB.out.alloc hsz (.cells #[.int .i64 (oAt o k), .int .i64 (cookTo s k), .int .i64 (cookTo s (k + 1)), .int .i64 (max (cookTo s (k + 1)) (packTo s k)), .int .i64 (packTo s (k + 1))] 37))
        have e6 : 0 ≤ max (cookTo s (k + 1)) (packTo s k) ∧ max (cookTo s (k + 1)) (packTo s k) ≤ 20000 := by omega
        clear hc HC HP HI S2
        generalize max (cookTo s (k + 1)) (packTo s k) = m at *
        generalize idleTo s k = v at *
        generalize packTo s k = p at *
        generalize hp1 : packTo s (k + 1) = p1 at *
        have HP1 := hid hp1
        clear hp1
        generalize cookTo s (k + 1) = q1 at *
        generalize cookTo s k = q at *
        go_wp2
        go_roundw
        case rel => exact ⟨k + 1, by omega, by go_num, by rw [HN.out], by rw [HP1.out], HB2⟩
        case measure => simp [intOf]; omega
      · obtain rfl : k = o.length := by omega
        have hd : decide (o.length < o.length) = false := decide_eq_false (Nat.lt_irrefl _)
        have P3 := hid (P2.out.trans (HB.out.mono P2.out.size))
        go_wp2
        go_ret2
        exact ⟨P3.out, by rw [HE2.out]; rfl⟩
  · have HE2 := hid ((HE.out).trans (if_neg h0))
    have h1 : (chkE l o != 0) = true := by simp [h0]
    clear h hO h0 HE
    generalize chkE l o = v at *
    go_enter Try.func19, Try.ntmps19
    go_wp2_with fail
    refine HV.out.mono ?_
    rintro e w1 ⟨hb1, rfl⟩
    have P1 := hid hb1
    clear hb1
    go_wp2
    go_ret2
    exact ⟨P1.out, by rw [HE2.out]; rfl⟩
set_option maxRecDepth 100000 in
set_option maxHeartbeats 1000000 in
theorem krRunP_ok (a A : Option Addr) (l : List Bt) (o : List Int) (cap oc : Nat) (w : World) (h : Bts w a l) (hO : Ints w A o) (h0 : chkE l o = 0) : Calls Try.prog 16 #[.slice a l.length cap, .slice A o.length oc] w (RunQ w o (seqO l o)) := by
  have hlen := h.len
  have holen := hO.len
  have HV := hid (krOrdered_any a A l o cap oc w h hO)
  obtain ⟨hl, ho⟩ := chkE_ok h0
  have HR := hid (fun W (hb : Below w.heap.size w W) => krRun_any a A l o cap oc W (h.below hb) (hO.below hb) hl ho)
  rw [h0] at HV
  clear h hO h0 hl ho
  go_enter Try.func16, Try.ntmps16
  go_wp2_with fail
  refine HV.out.mono ?_
  rintro e w1 ⟨rfl, rfl⟩
  have P1 := hid (Below.refl w.heap.size w)
  go_wp2_with fail
  refine (HR.out _ P1.out).mono ?_
  rintro e w2 ⟨hb2, A2, c2, rfl, hs2⟩
  have P2 := hid (P1.out.trans (hb2.mono P1.out.size))
  have S2 := hid hs2
  clear hb2 hs2
  go_wp2
  go_ret2
  exact ⟨P2.out, A2, c2, rfl, S2.out⟩
set_option maxRecDepth 100000 in
set_option maxHeartbeats 1000000 in
theorem krRunP_bad (a A : Option Addr) (l : List Bt) (o : List Int) (cap oc : Nat) (w : World) (h : Bts w a l) (hO : Ints w A o) (h0 : ¬ chkE l o = 0) : Calls Try.prog 16 #[.slice a l.length cap, .slice A o.length oc] w (ErrQ w (chkE l o)) := by
  have hlen := h.len
  have holen := hO.len
  have HV := hid (krOrdered_any a A l o cap oc w h hO)
  have h1 : (chkE l o != 0) = true := by simp [h0]
  clear h hO h0
  generalize chkE l o = v at *
  go_enter Try.func16, Try.ntmps16
  go_wp2_with fail
  refine HV.out.mono ?_
  rintro e w1 ⟨rfl, rfl⟩
  have P1 := hid (Below.refl w.heap.size w)
  go_wp2
  go_ret2
  exact ⟨P1.out, rfl⟩
set_option maxRecDepth 100000 in
set_option maxHeartbeats 2000000 in
theorem krIdle_any (a A : Option Addr) (l : List Bt) (o : List Int) (cap oc : Nat) (w : World) (h : Bts w a l) (hO : Ints w A o) : Calls Try.prog 20 #[.slice a l.length cap, .slice A o.length oc] w (PairK w (idleV l o)) := by
  have hlen := h.len
  have holen := hO.len
  have HV := hid (krOrdered_any a A l o cap oc w h hO)
  have HE := hid (show idleV l o = if chkE l o = 0 then (idleTo (seqO l o) o.length, 0) else (0, chkE l o) from rfl)
  by_cases h0 : chkE l o = 0
  · have HE2 := hid ((HE.out).trans (if_pos h0))
    obtain ⟨hl, ho⟩ := chkE_ok h0
    have ho7 : o.length ≤ 7 := by rw [ho.len]; exact hl.len
    have HR := hid (fun W (hb : Below w.heap.size w W) => krRun_any a A l o cap oc W (h.below hb) (hO.below hb) hl ho)
    have HC := hid (fun k (hk : k ≤ o.length) => cookTo_bd (seq_ok hl ho) k (by rw [seqO_len]; exact hk))
    have HP := hid (fun k (hk : k ≤ o.length) => packTo_bd (seq_ok hl ho) k (by rw [seqO_len]; exact hk))
    have HI := hid (fun k (hk : k ≤ o.length) => idle_bd (seq_ok hl ho) k (by rw [seqO_len]; exact hk))
    rw [h0] at HV
    clear h hO h0 HE hl ho
    generalize seqO l o = s at *
    go_enter Try.func20, Try.ntmps20
    go_wp2_with fail
    refine HV.out.mono ?_
    rintro e w1 ⟨rfl, rfl⟩
    have P1 := hid (Below.refl w.heap.size w)
    go_wp2_with fail
    refine (HR.out _ P1.out).mono ?_
    rintro e w2 ⟨hb2, A2, c2, rfl, hs2⟩
    have P2 := hid (P1.out.trans (hb2.mono P1.out.size))
    have S2 := hid hs2
    clear hb2 hs2 HR HV
    go_wp2
    go_loopw [7, 8, 10] (fun t u i wr => ∃ (k : Nat), k ≤ o.length ∧ i = .int .i64 k ∧ t = .int .i64 (idleTo s k) ∧ u = .int .i64 (packTo s k) ∧ Hid (Below w2.heap.size w2 wr)) (fun _ _ i _ => o.length - (intOf i).toNat)
    case atStart => exact ⟨0, Nat.zero_le _, rfl, rfl, rfl, Below.refl _ _⟩
    case round =>
      obtain ⟨k, hk, rfl, rfl, rfl, HB⟩ := hrel
      have e2 := HP.out k hk
      have e3 := HI.out k hk
      by_cases hlt : k < o.length
      · rcases (S2.out.below HB.out).at_ with e | ⟨b, off, rfl, hc⟩
        · rw [e] at hlt; simp at hlt
        obtain ⟨c0, c1, c2', c3, c4⟩ := hc k hlt
        have e4 := HC.out (k + 1) (by omega)
        have e5 := HP.out (k + 1) (by omega)
        have hd : decide (k < o.length) = true := decide_eq_true hlt
        have HN := hid (show idleTo s (k + 1) = idleTo s k + (max (cookTo s (k + 1)) (packTo s k) - packTo s k) from rfl)
        have e6 : 0 ≤ max (cookTo s (k + 1)) (packTo s k) ∧ max (cookTo s (k + 1)) (packTo s k) ≤ 20000 := by omega
        clear hc HC HP HI S2
        generalize max (cookTo s (k + 1)) (packTo s k) = m at *
        generalize idleTo s k = v at *
        generalize packTo s k = p at *
        generalize hp1 : packTo s (k + 1) = p1 at *
        have HP1 := hid hp1
        clear hp1
        generalize cookTo s (k + 1) = q1 at *
        generalize cookTo s k = q at *
        go_wp2
        go_roundw
        case rel => exact ⟨k + 1, by omega, by go_num, by rw [HN.out], by rw [HP1.out], HB⟩
        case measure => simp [intOf]; omega
      · obtain rfl : k = o.length := by omega
        have hd : decide (o.length < o.length) = false := decide_eq_false (Nat.lt_irrefl _)
        have P3 := hid (P2.out.trans (HB.out.mono P2.out.size))
        go_wp2
        go_ret2
        exact ⟨P3.out, by rw [HE2.out]; rfl⟩
  · have HE2 := hid ((HE.out).trans (if_neg h0))
    have h1 : (chkE l o != 0) = true := by simp [h0]
    clear h hO h0 HE
    generalize chkE l o = v at *
    go_enter Try.func20, Try.ntmps20
    go_wp2_with fail
    refine HV.out.mono ?_
    rintro e w1 ⟨rfl, rfl⟩
    have P1 := hid (Below.refl w.heap.size w)
    go_wp2
    go_ret2
    exact ⟨P1.out, by rw [HE2.out]; rfl⟩
end Go.Proofs.Yteolckphafblmaa
