/- The document's Reverse. -/
import Derived.Test.YteolckphafblmaaKiRev
import Derived.Test.YteolckphafblmaaKitchenMoreW
import Derived.Test.YteolckphafblmaaKiE
set_option linter.unusedVariables false
namespace Go.Proofs.Yteolckphafblmaa
open Go.RowKit

set_option maxRecDepth 100000 in
set_option maxHeartbeats 2000000 in
theorem krReverse_ok (a : Option Addr) (l : List Bt) (cap : Nat) (w : World) (h : Bts w a l) (h0 : valE l = 0) : Calls Try.prog 35 #[.slice a l.length cap] w (RevQ w l) := by
  obtain ⟨i0, hinf, hz0, hz1, hz2⟩ := info_parts batch_info
  have hlen := h.len
  have HL := hid (valE_ok h0)
  have hl7 := HL.out.len
  have HV := hid (krValidate_any a l cap w h)
  rw [h0] at HV
  have HB := hid h
  clear h h0
  go_enter Try.func35, Try.ntmps35
  go_wp2_with fail
  refine HV.out.mono ?_
  rintro e w1 ⟨rfl, rfl⟩
  go_wp2
  go_loopw [5, 6] (fun v i wr => ∃ k : Nat, k ≤ l.length ∧ i = .int .i64 k ∧ Hid (OwnB wr w.heap.size v ((l.take k).map flip2)) ∧ Hid (Below w.heap.size w wr)) (fun _ i _ => l.length - (intOf i).toNat)
  case atStart => exact ⟨0, Nat.zero_le _, rfl, OwnB.nil _ _, Below.refl _ _⟩
  case round =>
    obtain ⟨k, hk, rfl, HO, HW⟩ := hrel
    by_cases hlt : k < l.length
    · rcases HB.out.at_ with e | ⟨b, off, rfl, hc⟩
      · rw [e] at hlt; simp at hlt
      obtain ⟨c0, c1⟩ := hc k hlt
      have lt0 := cell_lt c0
      dsimp only at lt0
      rw [← HW.out.cell (p := ⟨b, off + k * 2, none⟩) lt0] at c0
      rw [← HW.out.cell (p := ⟨b, off + k * 2 + 1, none⟩) lt0] at c1
      have HT := hid (take_flip l k hlt)
      have hl2 : ((l.take k).map flip2).length = k := by simp; omega
      have HO2 := HO.out
      unfold OwnB at HO2
      rw [hl2] at HO2
      have i1 : (0 : Int) ≤ (k : Int) := by omega
      have i2 : (k : Int) < (l.length : Int) := by omega
      have hsz := HW.out.size
      obtain ⟨T, hT⟩ : ∃ T, (l.take k).map flip2 = T := ⟨_, rfl⟩
      rw [hT] at HT HO2 hl2
      have HL2 := hid hl2
      have HOw := hid HO2
      clear hc hT hl2 HO HO2
      obtain ⟨x, y, hxy⟩ : ∃ x y, btAt l k = (x, y) := ⟨_, _, rfl⟩
      rw [hxy] at c0 c1 HT
      dsimp only at c0 c1 HT
      have hr : Below w.heap.size wr wr := Below.refl _ _
      have HKp := hid (fun (w' : World) (hb : Below w.heap.size wr w') => (show w'.cell? ⟨b, off + k * 2, none⟩ = some (.int .i64 x) ∧ w'.cell? ⟨b, off + k * 2 + 1, none⟩ = some (.int .i64 y) ∧ Below w.heap.size wr w' from
        ⟨(hb.cell (p := ⟨b, off + k * 2, none⟩) lt0).trans c0, (hb.cell (p := ⟨b, off + k * 2 + 1, none⟩) lt0).trans c1, hb⟩))
      clear hxy
      go_wp2_with fail
      go_region_held3 (fun w' => w'.cell? ⟨b, off + k * 2, none⟩ = some (.int .i64 x) ∧ w'.cell? ⟨b, off + k * 2 + 1, none⟩ = some (.int .i64 y) ∧ Below w.heap.size wr w')
        ((refine HKp.out _ ?_; repeat (first | exact hr | assumption | apply Below.drew | (refine Below.alloc ?_ (by first | exact hsz | omega | (simp; done) | (simp; omega)) _))))
        ((refine step_append_own (by rfl) _ _ 22 (by rfl) w.heap.size 40 i0 (.agg #[.int .i64 0, .int .i64 0]) 2 16 Try.underlying22 hinf hz0 hz1 hz2 rfl (by decide) _ k _ (by rfl) (own_below HOw.out (by repeat (first | exact Below.refl _ _ | apply Below.drew | (refine Below.alloc ?_ (by first | exact Nat.le_refl _ | omega | (simp; done) | (simp; omega)) _)))) _ 1 1 [.int .i64 y, .int .i64 x] (by rfl) (by rfl) (cells_two (by repeat (first | (with_reducible exact blk_new (by first | rfl | (simp; done))) | (with_reducible refine blk_alloc ?_) | (with_reducible refine blk_drew ?_)))) (by simp [Value.oneCell']) (by unfold maxLen; omega) (by omega) (by first | omega | (simp; done) | (simp; omega)) ?_; intro v6 w6 hown6 hgrow6; have p6 : Below w.heap.size wr w6 := Below.grown (by repeat (first | exact Below.refl _ _ | apply Below.drew | (refine Below.alloc ?_ (by first | exact hsz | omega | (simp; done) | (simp; omega)) _))) hgrow6 (by first | exact hsz | omega | (simp; done) | (simp; omega)) (fun q hq => (HOw.out.lt q hq).1)))
      have HO6 : Hid (OwnB w6 w.heap.size v6 ((l.take (k + 1)).map flip2)) := by
        unfold Hid OwnB
        rw [HT.out, btC_snoc, List.length_append, HL2.out]
        exact hown6
      have W6 := hid (HW.out.trans (p6.mono (Nat.le_refl _)))
      clear hgrow6 hown6 HOw HT HL2 p6
      go_wp2
      go_roundw
      case rel => exact ⟨k + 1, by omega, by go_num, HO6, W6⟩
      case measure => simp [intOf]; omega
    · obtain rfl : k = l.length := by omega
      have HO3 := HO.out
      rw [List.take_length] at HO3
      obtain ⟨A, cf, rfl, hB⟩ := HO3.bts (by simp; omega) (flip_bd HL.out)
      have HB9 := hid hB
      have P9 := hid HW.out
      obtain ⟨n9, hn9⟩ : ∃ n9, (l.map flip2).length = n9 := ⟨_, rfl⟩
      have HN9 := hid hn9
      rw [hn9]
      have hd : decide (l.length < l.length) = false := decide_eq_false (Nat.lt_irrefl _)
      clear HO HO3 hB hn9
      go_wp2
      go_ret2
      refine ⟨P9.out, A, cf, ?_, HB9.out⟩
      have e9 := HN9.out
      subst e9
      rfl
set_option maxRecDepth 100000 in
set_option maxHeartbeats 1000000 in
theorem krReverse_bad (a : Option Addr) (l : List Bt) (cap : Nat) (w : World) (h : Bts w a l) (h0 : ¬ valE l = 0) : Calls Try.prog 35 #[.slice a l.length cap] w (fun en w' => Below w.heap.size w w' ∧ en = .returned (.tuple #[.slice none 0 0, .int .i64 (valE l)])) := by
  have hlen := h.len
  have HV := hid (krValidate_any a l cap w h)
  have h1 : (valE l != 0) = true := by simp [h0]
  clear h h0
  generalize valE l = v at *
  go_enter Try.func35, Try.ntmps35
  go_wp2_with fail
  refine HV.out.mono ?_
  rintro e w1 ⟨rfl, rfl⟩
  go_wp2
  go_ret2
  exact ⟨Below.refl _ _, rfl⟩
end Go.Proofs.Yteolckphafblmaa
