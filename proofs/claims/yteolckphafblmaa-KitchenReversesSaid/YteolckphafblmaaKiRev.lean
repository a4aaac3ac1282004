/- The program's Reverse; the law's `same` of batches that read as the same list. -/
import Derived.Test.YteolckphafblmaaKiMo
import Derived.Test.YteolckphafblmaaKiOrdM
set_option linter.unusedVariables false
namespace Go.Proofs.Yteolckphafblmaa
open Go.RowKit

theorem take_flip (l : List Bt) (k : Nat) (h : k < l.length) : (l.take (k + 1)).map flip2 = (l.take k).map flip2 ++ [((btAt l k).2, (btAt l k).1)] := by
  have e1 : l.take (k + 1) = l.take k ++ [l[k]] := by rw [List.take_add_one, List.getElem?_eq_getElem h]; rfl
  rw [e1, List.map_append]
  unfold btAt
  rw [List.getElem?_eq_getElem h]; rfl
def RevQ (w : World) (l : List Bt) (en : Ending) (w' : World) : Prop := Below w.heap.size w w' ∧ ∃ A cf, en = .returned (.tuple #[.slice A (l.map flip2).length cf, .int .i64 0]) ∧ Bts w' A (l.map flip2)
theorem flip_bd {l : List Bt} (hl : BtsOk l) : ∀ x ∈ l.map flip2, (-9223372036854775808 ≤ x.1 ∧ x.1 ≤ 9223372036854775807) ∧ -9223372036854775808 ≤ x.2 ∧ x.2 ≤ 9223372036854775807 := by
  intro x hx
  obtain ⟨b, hb, rfl⟩ := List.mem_map.1 hx
  have := hl.all b hb
  simp only [flip2]; omega

set_option maxRecDepth 100000 in
set_option maxHeartbeats 2000000 in
theorem same7_self (a b : Option Addr) (l : List Bt) (ca cb : Nat) (w : World) (ha : Bts w a l) (hb : Bts w b l) : Calls Try.prog 36 #[.slice a l.length ca, .slice b l.length cb] w (fun en w' => (∃ n, w' = w.drewN n) ∧ en = .returned (.bool true)) := by
  have hlen := ha.len
  have HA := hid ha
  have HB := hid hb
  clear ha hb
  go_enter Try.func36, Try.ntmps36
  go_wp2
  go_loopw [5] (fun i wr => ∃ (k : Nat), k ≤ l.length ∧ i = .int .i64 k ∧ Hid (∃ n, wr = w.drewN n)) (fun i _ => l.length - (intOf i).toNat)
  case atStart => exact ⟨0, Nat.zero_le _, rfl, ⟨0, rfl⟩⟩
  case round =>
    obtain ⟨k, hk, rfl, HW⟩ := hrel
    by_cases hlt : k < l.length
    · have HA2 := hid (show Bts wr a l by obtain ⟨n, e⟩ := HW.out; rw [e]; exact HA.out.below (below_drewN (Below.refl _ _) n))
      have HB2 := hid (show Bts wr b l by obtain ⟨n, e⟩ := HW.out; rw [e]; exact HB.out.below (below_drewN (Below.refl _ _) n))
      rcases HA2.out.at_ with e | ⟨p, o, rfl, hc⟩
      · rw [e] at hlt; simp at hlt
      rcases HB2.out.at_ with e | ⟨q, o2, rfl, hd⟩
      · rw [e] at hlt; simp at hlt
      obtain ⟨c0, c1⟩ := hc k hlt
      obtain ⟨d0, d1⟩ := hd k hlt
      have i0 : (0 : Int) ≤ (k : Int) := by omega
      have i1 : (k : Int) < (l.length : Int) := by omega
      clear hc hd
      generalize btAt l k = x at *
      go_wp2
      go_quiet (fail)
      go_wp2
      go_roundw
      case rel => exact ⟨k + 1, by omega, by go_num, by obtain ⟨m, e⟩ := HW.out; exact ⟨m + nq, by rw [e, World.drewN_drewN]⟩⟩
      case measure => simp [intOf]; omega
    · go_wp2
      go_ret
      exact ⟨HW.out, rfl⟩

set_option maxRecDepth 100000 in
set_option maxHeartbeats 2000000 in
theorem kReverse_ok (a : Option Addr) (l : List Bt) (cap : Nat) (w : World) (h : Bts w a l) (h0 : valE l = 0) : Calls Try.prog 34 #[.slice a l.length cap] w (RevQ w l) := by
  obtain ⟨i0, hinf, hz0, hz1, hz2⟩ := info_parts batch_info
  have hlen := h.len
  have HL := hid (valE_ok h0)
  have hl7 := HL.out.len
  have HV := hid (kValidate_any a l cap w h)
  rw [h0] at HV
  have HB := hid h
  clear h h0
  go_enter Try.func34, Try.ntmps34
  go_wp2_with fail
  refine HV.out.mono ?_
  rintro e w1 ⟨hb1, rfl⟩
  have P1 := hid hb1
  have HB1 := hid (HB.out.below hb1)
  clear hb1
  go_wp2
  go_loopw [5, 15] (fun v i wr => ∃ k : Nat, k ≤ l.length ∧ i = .int .i64 k ∧ Hid (OwnB wr w1.heap.size v ((l.take k).map flip2)) ∧ Hid (Below w1.heap.size w1 wr)) (fun _ i _ => l.length - (intOf i).toNat)
  case atStart => exact ⟨0, Nat.zero_le _, rfl, OwnB.nil _ _, Below.refl _ _⟩
  case round =>
    obtain ⟨k, hk, rfl, HO, HW⟩ := hrel
    by_cases hlt : k < l.length
    · have HBr := hid (HB1.out.below HW.out)
      rcases HBr.out.at_ with e | ⟨b, off, rfl, hc⟩
      · rw [e] at hlt; simp at hlt
      obtain ⟨c0, c1⟩ := hc k hlt
      have HT := hid (take_flip l k hlt)
      have hl2 : ((l.take k).map flip2).length = k := by simp; omega
      have HO2 := HO.out
      unfold OwnB at HO2
      rw [hl2] at HO2
      have i1 : (0 : Int) ≤ (k : Int) := by omega
      have i2 : (k : Int) < (l.length : Int) := by omega
      have hsz := HW.out.size
      obtain ⟨T, hT⟩ : ∃ T, (l.take k).map flip2 = T := ⟨_, rfl⟩
      rw [hT] at HT HO2 hl2
      have HL2 := hid hl2
      have HOw := hid HO2
      clear hc hT hl2 HO HO2
      obtain ⟨x, y, hxy⟩ : ∃ x y, btAt l k = (x, y) := ⟨_, _, rfl⟩
      rw [hxy] at c0 c1 HT
      dsimp only at c0 c1 HT
      clear hxy
      go_wp2_with (at_builtin; refine wpList_append_own _ rfl _ _ 22 rfl w1.heap.size 40 i0 (.agg #[.int .i64 0, .int .i64 0]) 2 16 Try.underlying22 hinf hz0 hz1 hz2 rfl (by decide) _ _ _ rfl (own_below HOw.out ((((Below.refl _ _).alloc (Nat.le_refl _) _)).alloc (by simp) _)) ⟨wr.heap.size + 1, 0, none⟩ 1 1 [.int .i64 y, .int .i64 x] rfl rfl ?c1 ?c2 ?c3 ?c4 ?c5 ?_)
      case c1 =>
        have := World.news_of_block (cs := #[.int .i64 y, .int .i64 x]) (t := 40) (fr := (0, 0)) (heap_alloc_new (wr.alloc (.cells #[.int .i64 x, .int .i64 y] 40)) (.cells #[.int .i64 y, .int .i64 x] 40))
        simpa using this
      case c2 => simp [Value.oneCell']
      case c3 => unfold maxLen; omega
      case c4 => omega
      case c5 => simp; omega
      intro v' w6 hown2 hgrow _
      have q6 : Below w1.heap.size wr w6 := (((Below.refl _ _).alloc hsz _).alloc (by simp; omega) _).grown hgrow (by simp; omega) (fun q hq => (HOw.out.lt q hq).1)
      have HO6 : Hid (OwnB w6 w1.heap.size v' ((l.take (k + 1)).map flip2)) := by
        unfold Hid OwnB
        rw [HT.out, btC_snoc, List.length_append, HL2.out]
        exact hown2
      have W6 := hid (HW.out.trans (q6.mono (Nat.le_refl _)))
      clear hgrow hown2 q6 HOw HT HL2
      go_wp2
      go_roundw
      case rel => exact ⟨k + 1, by omega, by go_num, HO6, W6⟩
      case measure => simp [intOf]; omega
    · obtain rfl : k = l.length := by omega
      have HO3 := HO.out
      rw [List.take_length] at HO3
      obtain ⟨A, cf, rfl, hB⟩ := HO3.bts (by simp; omega) (flip_bd HL.out)
      have HB9 := hid hB
      have P9 := hid (P1.out.trans (HW.out.mono P1.out.size))
      obtain ⟨n9, hn9⟩ : ∃ n9, (l.map flip2).length = n9 := ⟨_, rfl⟩
      have HN9 := hid hn9
      rw [hn9]
      have hd : decide (l.length < l.length) = false := decide_eq_false (Nat.lt_irrefl _)
      clear HO HO3 hB hn9
      go_wp2
      go_ret2
      refine ⟨P9.out, A, cf, ?_, HB9.out⟩
      have e9 := HN9.out
      subst e9
      rfl
set_option maxRecDepth 100000 in
set_option maxHeartbeats 1000000 in
theorem kReverse_bad (a : Option Addr) (l : List Bt) (cap : Nat) (w : World) (h : Bts w a l) (h0 : ¬ valE l = 0) : Calls Try.prog 34 #[.slice a l.length cap] w (fun en w' => Below w.heap.size w w' ∧ en = .returned (.tuple #[.slice none 0 0, .int .i64 (valE l)])) := by
  have hlen := h.len
  have HV := hid (kValidate_any a l cap w h)
  have h1 : (valE l != 0) = true := by simp [h0]
  clear h h0
  generalize valE l = v at *
  go_enter Try.func34, Try.ntmps34
  go_wp2_with fail
  refine HV.out.mono ?_
  rintro e w1 ⟨hb1, rfl⟩
  have P1 := hid hb1
  clear hb1
  go_wp2
  go_ret2
  exact ⟨P1.out, rfl⟩
end Go.Proofs.Yteolckphafblmaa
