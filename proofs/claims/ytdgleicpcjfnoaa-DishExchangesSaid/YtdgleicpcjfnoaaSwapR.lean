/- swapsOK of the document. -/
import Derived.Test.YtdgleicpcjfnoaaBook
import Derived.Test.YtdgleicpcjfnoaaRBook
import Derived.Deep.QuietTactic
import Derived.BigQuiet
import Derived.Deep.Cut
/- Lists of swaps; checkSwaps of the program, swapsOK of the document. -/
set_option linter.unusedVariables false
namespace Go.Proofs.Ytdgleicpcjfnoaa
open Go.RowKit

structure SwAt (w : World) (a : Option Addr) (sw : List (Int × Int)) : Prop where
  len : sw.length ≤ 140737488355328
  at_ : sw = [] ∨ ∃ b off, a = some ⟨b, off, none⟩ ∧ ∀ i, i < sw.length → w.cell? ⟨b, off + i * 2, none⟩ = some (.int .i64 (sw[i]?.getD (0, 0)).1) ∧ w.cell? ⟨b, off + i * 2 + 1, none⟩ = some (.int .i64 (sw[i]?.getD (0, 0)).2)
theorem SwAt.below {w w' : World} {a : Option Addr} {sw : List (Int × Int)} (h : SwAt w a sw) (hb : Below w.heap.size w w') : SwAt w' a sw := by
  refine ⟨h.len, ?_⟩
  rcases h.at_ with e | ⟨b, off, e, hc⟩
  · exact .inl e
  · exact .inr ⟨b, off, e, fun i hi => ⟨(hb.cell (cell_lt (hc i hi).1)).trans (hc i hi).1, (hb.cell (cell_lt (hc i hi).2)).trans (hc i hi).2⟩⟩
def inSw (n : Nat) (x : Int) : Bool := decide (0 ≤ x ∧ x < (n : Int))
def swB (n : Nat) (s : Int × Int) : Bool := inSw n s.1 && inSw n s.2
def swE (n : Nat) (sw : List (Int × Int)) : Int := if 8 < sw.length then 4 else if sw.all (swB n) then 0 else 5
theorem swE_ok {n : Nat} {sw : List (Int × Int)} (h : swE n sw = 0) : sw.length ≤ 8 ∧ ∀ s ∈ sw, (0 ≤ s.1 ∧ s.1 < (n : Int)) ∧ 0 ≤ s.2 ∧ s.2 < (n : Int) := by
  unfold swE at h
  split at h
  · cases h
  · split at h
    · rename_i h1 h2
      rw [List.all_eq_true] at h2
      refine ⟨by omega, fun s hs => ?_⟩
      have := h2 s hs
      rw [swB, Bool.and_eq_true, inSw, inSw, decide_eq_true_iff, decide_eq_true_iff] at this
      exact this
    · cases h
theorem sw_drop (f : Int × Int → Bool) (sw : List (Int × Int)) (k : Nat) (h : k < sw.length) : (sw.drop k).all f = (f (sw[k]?.getD (0, 0)) && (sw.drop (k + 1)).all f) := by
  rw [List.drop_eq_getElem_cons h, List.all_cons, List.getElem?_eq_getElem h]; rfl
def ErrR (w : World) (x : Int) (en : Ending) (w' : World) : Prop := Below w.heap.size w w' ∧ en = .returned (.int .i64 x)
set_option maxRecDepth 100000 in
set_option maxHeartbeats 2000000 in
theorem checkSwaps_any (P : Int) (ia : Option Addr) (n ic : Nat) (r : Value) (a : Option Addr) (sw : List (Int × Int)) (cap : Nat) (w : World) (h : SwAt w a sw) (hn : n ≤ 1000) :
  Calls Try.prog 83 #[.agg #[.int .i64 P, .slice ia n ic, r], .slice a sw.length cap] w (ErrR w (swE n sw)) := by
  have HS0 := hid (ValS.made w P (.slice ia n ic) r)
  have hlen := h.len
  have HH := hid (fun (W : World) (hb : Below w.heap.size w W) => h.below hb)
  clear h
  by_cases h8 : 8 < sw.length
  · have HE := hid (show swE n sw = 4 by unfold swE; rw [if_pos h8])
    have h8' : (8 : Int) < (sw.length : Int) := by omega
    generalize swE n sw = e at *
    go_enter Try.func83, Try.ntmps83
    go_wp2
    go_ret
    exact ⟨HS0.out.below, by rw [HE.out]; rfl⟩
  · have HE := hid (show swE n sw = if sw.all (swB n) then 0 else 5 by unfold swE; rw [if_neg h8])
    have h8' : ¬ (8 : Int) < (sw.length : Int) := by omega
    generalize swE n sw = e at *
    go_enter Try.func83, Try.ntmps83
    go_wp2
    go_loopw [12] (fun i wr => ∃ k : Nat, k ≤ sw.length ∧ i = .int .i64 k ∧ Hid (sw.all (swB n) = (sw.drop k).all (swB n)) ∧ Hid (ValS w P (.slice ia n ic) r wr)) (fun i _ => sw.length - (intOf i).toNat)
    case atStart => exact ⟨0, Nat.zero_le _, rfl, by unfold Hid; rw [List.drop_zero], HS0.out⟩
    case round =>
      obtain ⟨k, hk, rfl, HA, HS⟩ := hrel
      clear HS0
      by_cases hlt : k < sw.length
      · rcases (HH.out _ HS.out.below).at_ with e | ⟨b, off, rfl, hc⟩
        · rw [e] at hlt; simp at hlt
        obtain ⟨c0, c1⟩ := hc k hlt
        have HD := hid (sw_drop (swB n) sw k hlt)
        have hk0 : (0 : Int) ≤ (k : Int) := by omega
        have hk1 : (k : Int) < (sw.length : Int) := by omega
        clear hc
        generalize sw[k]?.getD (0, 0) = s at *
        obtain ⟨x, y⟩ := s
        dsimp only at c0 c1 HD
        have HBx := hid (show swB n (x, y) = (inSw n x && inSw n y) from rfl)
        have hA1 : Below wr.heap.size wr (wr.alloc (.cells #[.int .i64 x, .int .i64 y] 71)) := (Below.refl _ _).alloc (Nat.le_refl _) _
        have x0 : (wr.alloc (.cells #[.int .i64 x, .int .i64 y] 71)).cell? ⟨wr.heap.size, 0, none⟩ = some (.int .i64 x) := by go_simp
        have x1 : (wr.alloc (.cells #[.int .i64 x, .int .i64 y] 71)).cell? ⟨wr.heap.size, 1, none⟩ = some (.int .i64 y) := by go_simp
        have HS1 := hid (HS.out.keep hA1)
        have HI1 := hid (fun W : World => show Calls Try.prog 96 #[.agg #[.int .i64 P, .slice ia n ic, r], .int .i64 x] W (BoolR W (inSw n x)) from isItem_any P ia n ic r x W (by omega))
        have HI2 := hid (fun W : World => show Calls Try.prog 96 #[.agg #[.int .i64 P, .slice ia n ic, r], .int .i64 y] W (BoolR W (inSw n y)) from isItem_any P ia n ic r y W (by omega))
        generalize inSw n x = bx at *
        generalize inSw n y = by_ at *
        go_upto_region 6 with (fail)
        generalize hw3 : wr.alloc (.cells #[.int .i64 x, .int .i64 y] 71) = w3 at *
        clear hw3 c0 c1
        obtain ⟨a0, a1, a2, _⟩ := id HS1.out
        have HX := hid (And.intro x0 x1)
        clear HS hA1
        cases bx with
        | false =>
          go_wp2_with fail
          refine (HI1.out _).mono ?_
          rintro e w4 ⟨q4, rfl⟩
          have HF := hid (HS1.out.keep q4)
          go_wp2
          go_ret
          exact ⟨HF.out.below, by rw [HE.out, HA.out, HD.out, HBx.out]; rfl⟩
        | true =>
          go_wp2_with fail
          refine (HI1.out _).mono ?_
          rintro e w4 ⟨q4, rfl⟩
          have HF := hid (HS1.out.keep q4)
          obtain ⟨x0, x1⟩ := HX.out
          have x0 := (q4.cell (cell_lt x0)).trans x0
          have x1 := (q4.cell (cell_lt x1)).trans x1
          clear a0 a1 a2
          obtain ⟨a0, a1, a2, _⟩ := id HF.out
          clear q4 HI1
          cases by_ with
          | false =>
            go_wp2_with fail
            refine (HI2.out _).mono ?_
            rintro e w5 ⟨q5, rfl⟩
            have HF := hid (HF.out.keep q5)
            go_wp2
            go_ret
            exact ⟨HF.out.below, by rw [HE.out, HA.out, HD.out, HBx.out]; rfl⟩
          | true =>
            go_wp2_with fail
            refine (HI2.out _).mono ?_
            rintro e w5 ⟨q5, rfl⟩
            have HF := hid (HF.out.keep q5)
            go_wp2
            go_roundw
            case rel => exact ⟨k + 1, by omega, by go_num, by unfold Hid; rw [HA.out, HD.out, HBx.out]; rfl, HF.out⟩
            case measure => simp [intOf]; omega
      · have HAll := hid (show sw.all (swB n) = true by rw [HA.out, List.drop_of_length_le (by omega)]; rfl)
        go_wp2
        go_ret
        exact ⟨HS.out.below, by rw [HE.out, HAll.out]; rfl⟩
end Go.Proofs.Ytdgleicpcjfnoaa
set_option linter.unusedVariables false
namespace Go.Proofs.Ytdgleicpcjfnoaa
open Go.RowKit

set_option maxRecDepth 100000 in
set_option maxHeartbeats 4000000 in
theorem swapsOK_any (P : Int) (ia : Option Addr) (n ic : Nat) (r : Value) (a : Option Addr) (sw : List (Int × Int)) (cap : Nat) (w : World) (h : SwAt w a sw) (hn : n ≤ 1000) :
  Calls Try.prog 85 #[.agg #[.int .i64 P, .slice ia n ic, r], .slice a sw.length cap] w (ErrR w (swE n sw)) := by
  have HS0 := hid (ValS.made w P (.slice ia n ic) r)
  have hlen := h.len
  have HH := hid (fun (W : World) (hb : Below w.heap.size w W) => h.below hb)
  clear h
  by_cases h8 : 8 < sw.length
  · have HE := hid (show swE n sw = 4 by unfold swE; rw [if_pos h8])
    have h8' : (8 : Int) < (sw.length : Int) := by omega
    generalize swE n sw = e at *
    go_enter Try.func85, Try.ntmps85
    go_wp2
    go_ret
    exact ⟨HS0.out.below, by rw [HE.out]; rfl⟩
  · have HE := hid (show swE n sw = if sw.all (swB n) then 0 else 5 by unfold swE; rw [if_neg h8])
    have h8' : ¬ (8 : Int) < (sw.length : Int) := by omega
    generalize swE n sw = e at *
    go_enter Try.func85, Try.ntmps85
    go_wp2
    go_loopw [5] (fun i wr => ∃ k : Nat, k ≤ sw.length ∧ i = .int .i64 k ∧ Hid (sw.all (swB n) = (sw.drop k).all (swB n)) ∧ Hid (ValS w P (.slice ia n ic) r wr)) (fun i _ => sw.length - (intOf i).toNat)
    case atStart => exact ⟨0, Nat.zero_le _, rfl, by unfold Hid; rw [List.drop_zero], HS0.out⟩
    case round =>
      obtain ⟨k, hk, rfl, HA, HS⟩ := hrel
      clear HS0
      by_cases hlt : k < sw.length
      · rcases (HH.out _ HS.out.below).at_ with e | ⟨b, off, rfl, hc⟩
        · rw [e] at hlt; simp at hlt
        obtain ⟨c0, c1⟩ := hc k hlt
        have HD := hid (sw_drop (swB n) sw k hlt)
        have hk0 : (0 : Int) ≤ (k : Int) := by omega
        have hk1 : (k : Int) < (sw.length : Int) := by omega
        clear hc
        generalize sw[k]?.getD (0, 0) = s at *
        obtain ⟨x, y⟩ := s
        dsimp only at c0 c1 HD
        obtain ⟨a0, a1, a2, _⟩ := id HS.out
        have hNo : ∀ b : Bool, swB n (x, y) = b → (b = false → e = 5) := fun b hb hf => by
          rw [HE.out, HA.out, HD.out, hb, hf]; rfl
        have HNo := hid hNo
        clear hNo
        by_cases x0 : x < 0
        · have hB := hid (HNo.out false (by simp [swB, inSw]; intro h; omega) rfl)
          have d0 : decide (x < 0) = true := by simpa using x0
          clear HD HNo
          go_wp2
          go_quiet (fail)
          go_wp2
          go_ret
          exact ⟨(HS.out.keep (below_drewN (Below.refl _ _) _)).below, by rw [hB.out]; rfl⟩
        · have d0 : decide (x < 0) = false := by simpa using x0
          by_cases x1 : (n : Int) ≤ x
          · have hB := hid (HNo.out false (by simp [swB, inSw]; intro h; omega) rfl)
            have d1 : decide ((n : Int) ≤ x) = true := by simpa using x1
            clear HD HNo
            go_wp2
            go_quiet (fail)
            go_wp2
            go_ret
            exact ⟨(HS.out.keep (below_drewN (Below.refl _ _) _)).below, by rw [hB.out]; rfl⟩
          · have d1 : decide ((n : Int) ≤ x) = false := by simpa using x1
            by_cases y0 : y < 0
            · have hB := hid (HNo.out false (by simp [swB, inSw]; intro h; omega) rfl)
              have e0 : decide (y < 0) = true := by simpa using y0
              clear HD HNo
              go_wp2
              go_quiet (fail)
              go_wp2
              go_ret
              exact ⟨(HS.out.keep (below_drewN (Below.refl _ _) _)).below, by rw [hB.out]; rfl⟩
            · have e0 : decide (y < 0) = false := by simpa using y0
              by_cases y1 : (n : Int) ≤ y
              · have hB := hid (HNo.out false (by simp [swB, inSw]; intro h; omega) rfl)
                have e1 : decide ((n : Int) ≤ y) = true := by simpa using y1
                clear HD HNo
                go_wp2
                go_quiet (fail)
                go_wp2
                go_ret
                exact ⟨(HS.out.keep (below_drewN (Below.refl _ _) _)).below, by rw [hB.out]; rfl⟩
              · have e1 : decide ((n : Int) ≤ y) = false := by simpa using y1
                have hB := hid (show sw.all (swB n) = (sw.drop (k + 1)).all (swB n) by rw [HA.out, HD.out]; simp [swB, inSw]; intro h; omega)
                clear HD HNo
                go_wp2
                go_quiet (fail)
                go_wp2
                go_roundw
                case rel => exact ⟨k + 1, by omega, by go_num, hB, HS.out.keep (below_drewN (Below.refl _ _) _)⟩
                case measure => simp [intOf]; omega
      · have HAll := hid (show sw.all (swB n) = true by rw [HA.out, List.drop_of_length_le (by omega)]; rfl)
        obtain ⟨a0, a1, a2, _⟩ := id HS.out
        go_wp2
        go_ret
        exact ⟨HS.out.below, by rw [HE.out, HAll.out]; rfl⟩
end Go.Proofs.Ytdgleicpcjfnoaa
