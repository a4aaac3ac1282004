/- The test of an order: package kitchen. -/
import Derived.Test.YthogliblgcccnaaKiA
set_option linter.unusedVariables false
namespace Go.Proofs.Ythogliblgcccnaa
open Go.RowKit

/-- The cells of an array of marks. -/
def mcs (f : Nat → Bool) : Array Value := #[.bool (f 0), .bool (f 1), .bool (f 2), .bool (f 3), .bool (f 4), .bool (f 5), .bool (f 6)]
theorem mcs_at (f : Nat → Bool) (i : Nat) (h : i < 7) : (mcs f)[i]? = some (.bool (f i)) := by
  match i, h with
  | 0, _ => rfl
  | 1, _ => rfl
  | 2, _ => rfl
  | 3, _ => rfl
  | 4, _ => rfl
  | 5, _ => rfl
  | 6, _ => rfl
def mark (f : Nat → Bool) (k : Nat) : Nat → Bool := fun i => if i = k then true else f i
theorem mcs_set (f : Nat → Bool) (k : Nat) (h : k < 7) : (mcs f).setIfInBounds k (.bool true) = mcs (mark f k) := by
  match k, h with
  | 0, _ => rfl
  | 1, _ => rfl
  | 2, _ => rfl
  | 3, _ => rfl
  | 4, _ => rfl
  | 5, _ => rfl
  | 6, _ => rfl
/-- A block that holds marks. -/
def MBox (w : World) (B : Nat) (f : Nat → Bool) : Prop := w.heap[B]? = some (.cells (mcs f) 91 (0, 0))
theorem MBox.cell {w : World} {B : Nat} {f : Nat → Bool} (h : MBox w B f) (i : Nat) (hi : i < 7) : w.cell? ⟨B, i, none⟩ = some (.bool (f i)) := by
  unfold MBox at h
  unfold World.cell?
  simp [h, mcs_at f i hi]
theorem MBox.frozen {w : World} {B : Nat} {f : Nat → Bool} (h : MBox w B f) (i : Nat) : w.frozen? ⟨B, i, none⟩ = false := by
  unfold MBox at h
  unfold World.frozen?
  simp [h]
theorem MBox.made (w : World) (f : Nat → Bool) : MBox (w.alloc (.cells (mcs f) 91)) w.heap.size f := by
  unfold MBox World.alloc
  simp
theorem MBox.set {w : World} {B : Nat} {f : Nat → Bool} (h : MBox w B f) (k : Nat) (hk : k < 7) : MBox (w.setCell ⟨B, k, none⟩ (.bool true)) B (mark f k) := by
  unfold MBox at h ⊢
  rw [heap_setCell_same w B k _ _ _ h, mcs_set f k hk]
/-- What is marked behind k elements. -/
def marked (o : List Int) (k : Nat) : Nat → Bool := fun i => decide ((i : Int) ∈ o.take k)
theorem marked_succ (o : List Int) (k : Nat) (h : k < o.length) (h0 : 0 ≤ oAt o k) : marked o (k + 1) = mark (marked o k) (oAt o k).toNat := by
  funext i
  unfold marked mark
  rw [take_o o k h]
  by_cases e : i = (oAt o k).toNat
  · rw [if_pos e]
    simp; right; omega
  · rw [if_neg e]
    have e' : (i : Int) ≠ oAt o k := by omega
    simp [e']
set_option maxRecDepth 100000 in
set_option maxHeartbeats 2000000 in
theorem kIsOrder_any (a : Option Addr) (o : List Int) (cap n : Nat) (w : World) (h : Ints w a o) (hn : n ≤ 7) : Calls Try.prog 70 #[.slice a o.length cap, .int .i64 (n : Int)] w (BoolR w (ordB o n)) := by
  have hlen := h.len
  have HH := hid h
  have HB0 := hid ((Below.refl w.heap.size w).alloc (Nat.le_refl _) (.cells #[.bool false, .bool false, .bool false, .bool false, .bool false, .bool false, .bool false] 91))
  have HZ : Hid (MBox (w.alloc (.cells #[.bool false, .bool false, .bool false, .bool false, .bool false, .bool false, .bool false] 91)) w.heap.size (marked o 0)) := hid (MBox.made w (fun _ => false))
  have hsz : w.heap.size < (w.alloc (.cells #[.bool false, .bool false, .bool false, .bool false, .bool false, .bool false, .bool false] 91)).heap.size := by simp
  generalize hwB : w.alloc (.cells #[.bool false, .bool false, .bool false, .bool false, .bool false, .bool false, .bool false] 91) = wB at *
  clear h
  go_enter Try.func70, Try.ntmps70
  go_wp2
  clear hwB
  go_loopw [10] (fun i wr => ∃ (k : Nat), k ≤ o.length ∧ i = .int .i64 k ∧ Hid (goodTo o n k) ∧ Hid (MBox wr w.heap.size (marked o k)) ∧ Hid (Below w.heap.size w wr)) (fun i _ => o.length - (intOf i).toNat)
  case atStart => exact ⟨0, Nat.zero_le _, rfl, goodTo_zero o n, HZ, HB0⟩
  case round =>
    obtain ⟨k, hk, rfl, HG, HW, HB⟩ := hrel
    clear HZ HB0 hsz
    by_cases hlt : k < o.length
    · have hcr : ∃ b off, a = some ⟨b, off, none⟩ ∧ wr.cell? ⟨b, off + k, none⟩ = some (.int .i64 (oAt o k)) := by
        rcases (HH.out.below HB.out).at_ with e | ⟨b, off, ha, hc⟩
        · rw [e] at hlt; simp at hlt
        · exact ⟨b, off, ha, hc k hlt⟩
      obtain ⟨b, off, rfl, c0⟩ := hcr
      have HGs := hid (goodTo_succ o n k hlt)
      have HBad := hid (goodTo_bad o n k hlt)
      have HMs := hid (fun h0 => marked_succ o k hlt h0)
      have hbd := HH.out.bdAt k hlt
      rw [show o[k]?.getD 0 = oAt o k from rfl] at hbd
      have HMm := hid (fun (i : Nat) => show marked o k i = decide ((i : Int) ∈ o.take k) from rfl)
      generalize oAt o k = x at *
      have HA := hid (kWithin_any x 0 ((n : Int) - 1))
      by_cases hin : 0 ≤ x ∧ x ≤ (n : Int) - 1
      · rw [show zin x 0 ((n : Int) - 1) = true from decide_eq_true hin] at HA
        obtain ⟨hx0, hx1⟩ := hin
        obtain ⟨m, rfl⟩ := Int.eq_ofNat_of_zero_le hx0
        have hm7 : m < 7 := by omega
        have m0 := HW.out.cell m hm7
        have mf := HW.out.frozen m
        have hm7' : (m : Int) < 7 := by omega
        cases hmk : marked o k m with
        | true =>
          rw [hmk] at m0
          have HN := hid (show ordB o n = false from HBad.out (fun hg => by
            have := (HGs.out.1 hg).2.2
            rw [HMm.out m] at hmk
            exact this (of_decide_eq_true hmk)))
          clear hmk HGs HBad HMs HMm
          go_wp2_with fail
          refine (HA.out _).mono ?_
          rintro e w1 ⟨rfl, rfl⟩
          go_wp2
          go_ret
          exact ⟨HB.out, by rw [HN.out]; rfl⟩
        | false =>
          rw [hmk] at m0
          have HN := hid (show goodTo o n (k + 1) from HGs.out.2 ⟨HG.out, ⟨by omega, by omega⟩, by
            rw [HMm.out m] at hmk
            exact of_decide_eq_false hmk⟩)
          have HM2 := hid (HMs.out (by omega))
          rw [Int.toNat_natCast] at HM2
          clear hmk HGs HBad HMs HMm
          go_wp2_with fail
          refine (HA.out _).mono ?_
          rintro e w1 ⟨rfl, rfl⟩
          go_wp2
          go_roundw
          case rel => exact ⟨k + 1, by omega, by go_num, HN, by rw [HM2.out]; exact HW.out.set m hm7, HB.out.setCell (Nat.le_refl _) _⟩
          case measure => simp [intOf]; omega
      · rw [show zin x 0 ((n : Int) - 1) = false from decide_eq_false hin] at HA
        have HN := hid (show ordB o n = false from HBad.out (fun hg => by
          have := (HGs.out.1 hg).2.1; omega))
        clear hin HGs HBad HMs HMm
        go_wp2_with fail
        refine (HA.out _).mono ?_
        rintro e w1 ⟨rfl, rfl⟩
        go_wp2
        go_ret
        exact ⟨HB.out, by rw [HN.out]; rfl⟩
    · obtain rfl : k = o.length := by omega
      have HN := hid (goodTo_end o n HG.out)
      by_cases he : o.length = n
      · have HN2 := hid ((HN.out).trans (decide_eq_true he))
        have he1 : (o.length : Int) ≤ (n : Int) := by omega
        have he2 : (n : Int) ≤ (o.length : Int) := by omega
        have he3 : ((o.length : Int) == (n : Int)) = true := by simp; omega
        clear he HN
        go_wp2
        go_ret
        exact ⟨HB.out, by rw [HN2.out]; first | rfl | (apply ret_bool; simp; omega)⟩
      · have HN2 := hid ((HN.out).trans (decide_eq_false he))
        have he3 : ((o.length : Int) == (n : Int)) = false := by simp; omega
        clear he HN
        go_wp2
        go_ret
        exact ⟨HB.out, by rw [HN2.out]; first | rfl | (apply ret_bool; simp; omega)⟩
def chkE (l : List Bt) (o : List Int) : Int := if valE l = 0 then (if ordB o l.length = true then 0 else 1) else valE l
theorem chkE_ok {l : List Bt} {o : List Int} (h : chkE l o = 0) : BtsOk l ∧ IsOrd o l.length := by
  unfold chkE at h
  split at h
  · rename_i h1
    split at h
    · rename_i h2; exact ⟨valE_ok h1, (ordB_iff _ _).1 h2⟩
    · cases h
  · exact absurd h (by assumption)
set_option maxRecDepth 100000 in
set_option maxHeartbeats 1000000 in
theorem kCheck_any (a A : Option Addr) (l : List Bt) (o : List Int) (cap oc : Nat) (w : World) (h : Bts w a l) (ho : Ints w A o) : Calls Try.prog 52 #[.slice a l.length cap, .slice A o.length oc] w (IntR w (chkE l o)) := by
  have hlen := h.len
  have holen := ho.len
  have HV := hid (kValidate_any a l cap w h)
  have HE := hid (show chkE l o = if valE l = 0 then (if ordB o l.length = true then 0 else 1) else valE l from rfl)
  by_cases h0 : valE l = 0
  · have HE2 := hid ((HE.out).trans (if_pos h0))
    have hl7 := (valE_ok h0).len
    have HO := hid (fun W (hb : Below w.heap.size w W) => kIsOrder_any A o oc l.length W (ho.below hb) hl7)
    rw [h0] at HV
    clear h ho h0 HE
    cases hob : ordB o l.length with
    | true =>
      rw [hob] at HO HE2
      clear hob
      go_enter Try.func52, Try.ntmps52
      go_wp2_with fail
      refine HV.out.mono ?_
      rintro e w1 ⟨hb1, rfl⟩
      have P1 := hid hb1
      clear hb1
      go_wp2_with fail
      refine (HO.out _ P1.out).mono ?_
      rintro e w2 ⟨hb2, rfl⟩
      have P2 := hid (P1.out.trans (hb2.mono P1.out.size))
      clear hb2
      go_wp2
      go_ret
      exact ⟨P2.out, by rw [HE2.out]; rfl⟩
    | false =>
      rw [hob] at HO HE2
      clear hob
      go_enter Try.func52, Try.ntmps52
      go_wp2_with fail
      refine HV.out.mono ?_
      rintro e w1 ⟨hb1, rfl⟩
      have P1 := hid hb1
      clear hb1
      go_wp2_with fail
      refine (HO.out _ P1.out).mono ?_
      rintro e w2 ⟨hb2, rfl⟩
      have P2 := hid (P1.out.trans (hb2.mono P1.out.size))
      clear hb2
      go_wp2
      go_ret
      exact ⟨P2.out, by rw [HE2.out]; rfl⟩
  · have HE2 := hid ((HE.out).trans (if_neg h0))
    have h1 : (valE l != 0) = true := by simp [h0]
    clear h ho h0 HE
    generalize valE l = v at *
    go_enter Try.func52, Try.ntmps52
    go_wp2_with fail
    refine HV.out.mono ?_
    rintro e w1 ⟨hb1, rfl⟩
    have P1 := hid hb1
    clear hb1
    go_wp2
    go_ret
    exact ⟨P1.out, by rw [HE2.out]; rfl⟩
end Go.Proofs.Ythogliblgcccnaa
