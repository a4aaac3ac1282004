/- Late: the document's own; equal lists of numbers. -/
import Derived.Test.YteolckphafblmaaKiH
import Derived.Test.YteolckphafblmaaKiLateM
set_option linter.unusedVariables false
namespace Go.Proofs.Yteolckphafblmaa
open Go.RowKit

def duF (o du : List Int) (s : List Bt) : Nat → Bool := fun k => decide (oAt du (oAt o k).toNat < packTo s (k + 1))
def ltE (l : List Bt) (o du : List Int) : Int := if chkE l o = 0 then (if du.length = l.length then 0 else 1) else chkE l o
def LateQ (w : World) (R : List Int) (en : Ending) (w' : World) : Prop := Below w.heap.size w w' ∧ ∃ A c, en = .returned (.tuple #[.slice A R.length c, .int .i64 0]) ∧ Ints w' A R
def LErrQ (w : World) (e : Int) (en : Ending) (w' : World) : Prop := Below w.heap.size w w' ∧ en = .returned (.tuple #[.slice none 0 0, .int .i64 e])
theorem refTo_bd (o : List Int) (f : Nat → Bool) (n : Nat) (hn : n ≤ 7) : ∀ x ∈ refTo o f n, -9223372036854775808 ≤ x ∧ x ≤ 9223372036854775807 := fun x hx => by
  have := ((refTo_mem o f n x).1 hx).1; omega
theorem refTo_len (o : List Int) (f : Nat → Bool) (n : Nat) (ho : o.length ≤ 7) : (refTo o f n).length ≤ n * 7 := by
  induction n with
  | zero => simp [refTo]
  | succ n ih => have := innTo_len o f (n : Int) o.length; rw [refTo, List.length_append]; omega
set_option maxRecDepth 100000 in
set_option maxHeartbeats 4000000 in
theorem krLate_ok (a A D : Option Addr) (l : List Bt) (o du : List Int) (cap oc dc : Nat) (w : World) (h : Bts w a l) (hO : Ints w A o) (hU : Ints w D du) (h0 : ltE l o du = 0) :
  Calls Try.prog 38 #[.slice a l.length cap, .slice A o.length oc, .slice D du.length dc] w (LateQ w (refTo o (duF o du (seqO l o)) l.length)) := by
  obtain ⟨i0, hinf, hz0, hz1, hz2⟩ := info_parts int_info
  have hlen := h.len
  have holen := hO.len
  have hulen := hU.len
  have hc : chkE l o = 0 := by
    unfold ltE at h0
    by_cases e : chkE l o = 0
    · exact e
    · rw [if_neg e] at h0; exact absurd h0 e
  have hud : du.length = l.length := by
    unfold ltE at h0
    rw [if_pos hc] at h0
    by_cases e : du.length = l.length
    · exact e
    · rw [if_neg e] at h0; cases h0
  have HV := hid (krOrdered_any a A l o cap oc w h hO)
  rw [hc] at HV
  obtain ⟨hl, ho⟩ := chkE_ok hc
  have hol := ho.len
  have hl7 := hl.len
  have HR := hid (krRun_any a A l o cap oc w h hO hl ho)
  have HU := hid hU
  have HM := hid (fun i (hi : i < o.length) => ho.mem (oAt_mem o i hi))
  have HF := hid (show ∀ k, duF o du (seqO l o) k = decide (oAt du (oAt o k).toNat < packTo (seqO l o) (k + 1)) from fun _ => rfl)
  have u1 : (du.length : Int) ≤ (l.length : Int) := by omega
  have u2 : (l.length : Int) ≤ (du.length : Int) := by omega
  have u3 : ((du.length : Int) != (l.length : Int)) = false := by simp; omega
  have o1 : o.length ≤ 7 := by omega
  have HOL := hid hol
  have HUD := hid hud
  have HBd := hid (refTo_bd o (duF o du (seqO l o)) l.length hl7)
  have HLn := hid (fun n => refTo_len o (duF o du (seqO l o)) n o1)
  have HLi := hid (fun n k => innTo_len o (duF o du (seqO l o)) n k)
  generalize hf : duF o du (seqO l o) = f at *
  have HFd := hid hf
  generalize seqO l o = s at *
  clear h hO hU h0 hc hl ho hol hud hf
  go_enter Try.func38, Try.ntmps38
  go_wp2_with fail
  refine HV.out.mono ?_
  rintro e w1 ⟨rfl, rfl⟩
  go_wp2_with fail
  refine HR.out.mono ?_
  rintro e w2 ⟨hb2, A2, c2, rfl, hs2⟩
  have P2 := hid hb2
  have S2 := hid hs2
  have U2 := hid (HU.out.below hb2)
  clear hb2 hs2 HV HR HU
  go_wp2
  go_loopw [9, 11] (fun v i wr => ∃ (n : Nat), n ≤ l.length ∧ i = .int .i64 n ∧ Hid (Own wr w2.heap.size v (refTo o f n)) ∧ Hid (Below w2.heap.size w2 wr)) (fun _ i _ => l.length - (intOf i).toNat)
  case atStart => exact ⟨0, Nat.zero_le _, rfl, Own.nil _ _, Below.refl _ _⟩
  case round =>
    obtain ⟨n, hn, rfl, HO, HB⟩ := hrel
    by_cases hlt : n < l.length
    · have hd : decide (n < l.length) = true := decide_eq_true hlt
      have hnI : (n : Int) < (l.length : Int) := by omega
      have HO0 := HO
      have HB0 := HB
      have HNx := hid (show refTo o f (n + 1) = refTo o f n ++ innTo o f (n : Int) o.length from rfl)
      clear HO HB
      go_wp2
      obtain ⟨wo, rfl⟩ : ∃ wo : World, wo = wr := ⟨_, rfl⟩
      go_loopw [9, 12] (fun v i wr => ∃ (k : Nat), k ≤ o.length ∧ i = .int .i64 k ∧ Hid (Own wr w2.heap.size v (refTo o f n ++ innTo o f (n : Int) k)) ∧ Hid (Below w2.heap.size w2 wr)) (fun _ i _ => o.length - (intOf i).toNat)
      case atStart => exact ⟨0, Nat.zero_le _, rfl, by unfold Hid; rw [show innTo o f (n : Int) 0 = [] from rfl, List.append_nil]; exact HO0, HB0⟩
      case round =>
        obtain ⟨k, hk, rfl, HO, HB⟩ := hrel
        by_cases hlk : k < o.length
        · have hdk : decide (k < o.length) = true := decide_eq_true hlk
          obtain ⟨bs, os, rfl, cs⟩ : ∃ b off, A2 = some ⟨b, off, none⟩ ∧ (wr.cell? ⟨b, off + k * 5, none⟩ = some (.int .i64 (oAt o k)) ∧ wr.cell? ⟨b, off + k * 5 + 4, none⟩ = some (.int .i64 (packTo s (k + 1)))) := by
            rcases (S2.out.below HB.out).at_ with e | ⟨b, off, hb, hcs⟩
            · rw [e] at hlk; simp at hlk
            · obtain ⟨c0, _, _, _, c4⟩ := hcs k hlk
              exact ⟨b, off, hb, c0, c4⟩
          obtain ⟨c0, c4⟩ := cs
          obtain ⟨bd, od, rfl, d0⟩ : ∃ b off, D = some ⟨b, off, none⟩ ∧ wr.cell? ⟨b, off + n, none⟩ = some (.int .i64 (oAt du n)) := by
            rcases (U2.out.below HB.out).at_ with e | ⟨b, off, hb, hcs⟩
            · have := HUD.out; rw [e] at this; simp at this; omega
            · exact ⟨b, off, hb, hcs n (by have := HUD.out; omega)⟩
          have i0' : (0 : Int) ≤ (k : Int) := by omega
          have i1' : (k : Int) < (o.length : Int) := by omega
          have i2' : (0 : Int) ≤ (n : Int) := by omega
          have i3' : (n : Int) < (du.length : Int) := by omega
          have HIn := hid (show innTo o f (n : Int) (k + 1) = innTo o f (n : Int) k ++ (if oAt o k = (n : Int) ∧ f k = true then [(n : Int)] else []) from rfl)
          have HFk := hid (HF.out k)
          have hln := HLn.out n
          have hli := HLi.out (n : Int) k
          have hO3 := HO.out
          have hsz := HB.out.size
          generalize oAt o k = x at *
          generalize packTo s (k + 1) = p at *
          generalize hfk : f k = fk at *
          clear hfk
          by_cases hx : x = (n : Int)
          · have hx' : (x == (n : Int)) = true := by simp [hx]
            have hdu : oAt du x.toNat = oAt du n := by rw [hx, Int.toNat_natCast]
            rw [hdu] at HFk
            generalize oAt du n = q at *
            by_cases hq : q < p
            · have HR2 := hid (show refTo o f n ++ innTo o f (n : Int) (k + 1) = (refTo o f n ++ innTo o f (n : Int) k) ++ [(n : Int)] by rw [HIn.out, if_pos ⟨hx, by rw [HFk.out, decide_eq_true hq]⟩, List.append_assoc])
              have hlr : (refTo o f n ++ innTo o f (n : Int) k).length ≤ 1000 := by rw [List.length_append]; omega
              generalize refTo o f n ++ innTo o f (n : Int) k = R at *
              clear HIn HFk hx hdu
              go_wp2_with fail
              go_quiet (fail)
              have hb3 := below_drewN (Below.refl wr.heap.size wr) nq
              have O4 := hO3.below hb3
              have B4 := hid (HB.out.trans (hb3.mono hsz))
              have hz4 : (wr.drewN nq).heap.size = wr.heap.size := rfl
              have hsz4 : w2.heap.size ≤ (wr.drewN nq).heap.size := by rw [hz4]; exact hsz
              generalize wr.drewN nq = wd at *
              unfold Own at O4
              clear hb3 hz4
              go_wp2_with (at_builtin; refine wpList_append_own _ rfl _ _ 23 rfl w2.heap.size 3 i0 (.int .i64 0) 1 8 Try.underlying23 hinf hz0 hz1 hz2 rfl (by decide) _ _ _ rfl (O4.alloc _) ⟨wd.heap.size, 0, none⟩ 1 1 [.int .i64 (n : Int)] rfl rfl (news_at rfl #[.int .i64 (n : Int)] 3) (by simp [Value.oneCell']) (by unfold maxLen; omega) (by omega) (by rw [World.size_alloc]; omega) ?_)
              intro v' w6 hown2 hgrow _
              have hnb : ∀ q, some q = u9.ownBlock → w2.heap.size ≤ q ∧ q < wd.heap.size := fun q hq => O4.lt q hq.symm
              have B6 := hid ((B4.out.alloc hsz4 _).grown hgrow (by rw [World.size_alloc]; omega) (fun q hq => (hnb q hq.symm).1))
              clear hnb hgrow O4
              have HOw : Hid (Own w6 w2.heap.size v' (R ++ [(n : Int)])) := by unfold Hid Own; simpa using hown2
              clear hown2
              go_wp2
              go_roundw
              case rel => exact ⟨k + 1, by omega, by go_num, by unfold Hid; rw [HR2.out]; exact HOw.out, B6⟩
              case measure => simp [intOf]; omega
            · have hq' : p ≤ q := by omega
              have HR2 := hid (show innTo o f (n : Int) (k + 1) = innTo o f (n : Int) k by rw [HIn.out, if_neg (by rw [HFk.out, decide_eq_false hq]; simp), List.append_nil])
              clear HIn HFk hx hdu hq
              go_wp2_with fail
              go_quiet (fail)
              go_wp2
              go_roundw
              case rel => exact ⟨k + 1, by omega, by go_num, by unfold Hid; rw [HR2.out]; exact hO3.below (below_drewN (Below.refl _ _) _), below_drewN HB.out _⟩
              case measure => simp [intOf]; omega
          · have hx' : (x == (n : Int)) = false := by simp [hx]
            have HR2 := hid (show innTo o f (n : Int) (k + 1) = innTo o f (n : Int) k by rw [HIn.out, if_neg (fun hh => hx hh.1), List.append_nil])
            clear HIn HFk hx
            go_wp2_with fail
            go_quiet (fail)
            go_wp2
            go_roundw
            case rel => exact ⟨k + 1, by omega, by go_num, by unfold Hid; rw [HR2.out]; exact hO3.below (below_drewN (Below.refl _ _) _), below_drewN HB.out _⟩
            case measure => simp [intOf]; omega
        · obtain rfl : k = o.length := by omega
          have hdk : decide (o.length < o.length) = false := decide_eq_false (Nat.lt_irrefl _)
          rw [← HNx.out] at HO
          go_wp2
          go_roundw
          case rel => exact ⟨n + 1, by omega, by go_num, HO, HB⟩
          case measure => simp [intOf]; omega
    · obtain rfl : n = l.length := by omega
      have hd : decide (l.length < l.length) = false := decide_eq_false (Nat.lt_irrefl _)
      have hln := HLn.out l.length
      obtain ⟨A3, c3, rfl, hi3⟩ := HO.out.ints (by omega) HBd.out
      have P3 := hid (P2.out.trans (HB.out.mono P2.out.size))
      have HI3 := hid hi3
      clear hi3 HO
      go_wp2
      go_ret2
      exact ⟨P3.out, A3, c3, rfl, HI3.out⟩
set_option maxRecDepth 100000 in
set_option maxHeartbeats 1000000 in
theorem krLate_bad (a A D : Option Addr) (l : List Bt) (o du : List Int) (cap oc dc : Nat) (w : World) (h : Bts w a l) (hO : Ints w A o) (hU : Ints w D du) (h0 : ¬ ltE l o du = 0) :
  Calls Try.prog 38 #[.slice a l.length cap, .slice A o.length oc, .slice D du.length dc] w (LErrQ w (ltE l o du)) := by
  have hlen := h.len
  have holen := hO.len
  have hulen := hU.len
  have HV := hid (krOrdered_any a A l o cap oc w h hO)
  have HE := hid (show ltE l o du = if chkE l o = 0 then (if du.length = l.length then 0 else 1) else chkE l o from rfl)
  by_cases hc : chkE l o = 0
  · have hne : ¬ du.length = l.length := fun e => h0 (by rw [HE.out, if_pos hc, if_pos e])
    have HE2 := hid (show ltE l o du = 1 by rw [HE.out, if_pos hc, if_neg hne])
    have u3 : ((du.length : Int) != (l.length : Int)) = true := by simp; omega
    rw [hc] at HV
    clear h hO hU h0 hc hne HE
    go_enter Try.func38, Try.ntmps38
    go_wp2_with fail
    refine HV.out.mono ?_
    rintro e w1 ⟨rfl, rfl⟩
    go_wp2
    go_ret2
    exact ⟨Below.refl _ _, by rw [HE2.out]; first | rfl | skip⟩
  · have HE2 := hid (show ltE l o du = chkE l o by rw [HE.out, if_neg hc])
    have h1 : (chkE l o != 0) = true := by simp [hc]
    clear h hO hU h0 hc HE
    generalize chkE l o = v at *
    go_enter Try.func38, Try.ntmps38
    go_wp2_with fail
    refine HV.out.mono ?_
    rintro e w1 ⟨rfl, rfl⟩
    go_wp2
    go_ret2
    exact ⟨Below.refl _ _, by rw [HE2.out]; first | rfl | skip⟩
set_option maxRecDepth 100000 in
set_option maxHeartbeats 1000000 in
theorem sameInts7_self (a b : Option Addr) (l : List Int) (ca cb : Nat) (w : World) (ha : Ints w a l) (hb : Ints w b l) : Calls Try.prog 39 #[.slice a l.length ca, .slice b l.length cb] w (fun en w' => (∃ n, w' = w.drewN n) ∧ en = .returned (.bool true)) := by
  have hlen := ha.len
  have HA := hid ha
  have HB := hid hb
  clear ha hb
  go_enter Try.func39, Try.ntmps39
  go_wp2
  go_loopw [5] (fun i wr => ∃ (k : Nat), k ≤ l.length ∧ i = .int .i64 k ∧ Hid (∃ n, wr = w.drewN n)) (fun i _ => l.length - (intOf i).toNat)
  case atStart => exact ⟨0, Nat.zero_le _, rfl, ⟨0, rfl⟩⟩
  case round =>
    obtain ⟨k, hk, rfl, HW⟩ := hrel
    by_cases hlt : k < l.length
    · obtain ⟨n9, hn9⟩ := HW.out
      rcases HA.out.at_ with e | ⟨b1, o1, rfl, hc1⟩
      · rw [e] at hlt; simp at hlt
      rcases HB.out.at_ with e | ⟨b2, o2, rfl, hc2⟩
      · rw [e] at hlt; simp at hlt
      have c1 : wr.cell? ⟨b1, o1 + k, none⟩ = some (.int .i64 (oAt l k)) := by rw [hn9]; exact hc1 k hlt
      have c2 : wr.cell? ⟨b2, o2 + k, none⟩ = some (.int .i64 (oAt l k)) := by rw [hn9]; exact hc2 k hlt
      have i0 : (0 : Int) ≤ (k : Int) := by omega
      have i1 : (k : Int) < (l.length : Int) := by omega
      have hd : decide (k < l.length) = true := decide_eq_true hlt
      clear hc1 hc2 hn9 n9
      generalize oAt l k = p at *
      go_wp2_with fail
      go_quiet (fail)
      go_wp2
      go_roundw
      case rel => exact ⟨k + 1, by omega, by go_num, by obtain ⟨n, e⟩ := HW.out; exact ⟨_, by rw [e, World.drewN_drewN]⟩⟩
      case measure => simp [intOf]; omega
    · obtain rfl : k = l.length := by omega
      have hd : decide (l.length < l.length) = false := decide_eq_false (Nat.lt_irrefl _)
      go_wp2
      go_ret
      exact ⟨HW.out, rfl⟩
end Go.Proofs.Yteolckphafblmaa
