/- The program's Direct: chapter 8. -/
import Derived.Test.YtbffdpcogfmomaaVaDi
set_option linter.unusedVariables false
namespace Go.Proofs.Ytbffdpcogfmomaa
open Go.RowKit Go.Maps

def dirRow (t : Tbl) (i k : Nat) : List Int := (List.range k).map (fun (j : Nat) => fwM t t.length i j)
def dirTo (t : Tbl) (k : Nat) : Tbl := (List.range k).map (fun i => dirRow t i t.length)
/-- The ways when detours may be taken. -/
def dirT (t : Tbl) : Tbl := dirTo t t.length
theorem dirRow_succ (t : Tbl) (i k : Nat) : dirRow t i (k + 1) = dirRow t i k ++ [fwM t t.length i k] := by
  simp only [dirRow, List.range_succ, List.map_append, List.map_cons, List.map_nil]
theorem dirRow_len (t : Tbl) (i k : Nat) : (dirRow t i k).length = k := by simp [dirRow]
theorem dirTo_succ (t : Tbl) (k : Nat) : dirTo t (k + 1) = dirTo t k ++ [dirRow t k t.length] := by
  simp only [dirTo, List.range_succ, List.map_append, List.map_cons, List.map_nil]
theorem dirTo_len (t : Tbl) (k : Nat) : (dirTo t k).length = k := by simp [dirTo]
theorem dirT_len (t : Tbl) : (dirT t).length = t.length := dirTo_len t _
theorem dirT_row (t : Tbl) (i : Nat) (hi : i < t.length) : tR (dirT t) i = dirRow t i t.length := by
  simp [tR, dirT, dirTo, List.getElem?_range hi]
theorem dirT_at (t : Tbl) (i j : Nat) (hi : i < t.length) (hj : j < t.length) : tA (dirT t) i j = fwM t t.length i j := by
  rw [tA_nat, dirT_row t i hi]
  simp [dirRow, List.getElem?_range hj]
/-- What Direct answers. -/
def DirR (t : Tbl) (w : World) (en : Ending) (w' : World) : Prop :=
  Below w.heap.size w w' ∧ ((vaV t ≠ 0 ∧ en = .returned (.tuple #[.slice none 0 0, .int .i64 (vaV t)])) ∨ (vaV t = 0 ∧ ∃ B d, en = .returned (.tuple #[.slice B t.length d, .int .i64 0]) ∧ TabAt w' B (dirT t)))
set_option maxRecDepth 100000 in
set_option maxHeartbeats 4000000 in
theorem vDirect_any (a : Option Addr) (t : Tbl) (cap : Nat) (w : World) (h : TabAt w a t) : Calls Try.prog 36 #[.slice a t.length cap] w (DirR t w) := by
  obtain ⟨i0, hinf, hz0, hz1, hz2⟩ := info_parts int_info
  obtain ⟨i2, hinf2, hy0, hy1, hy2⟩ := info_parts ints_info
  have HV := hid (vValidate_any a t cap w h)
  by_cases hv : vaV t = 0
  · have hws := (ways_iff t).1 hv
    have hl7 := hws.len
    have hpos := hws.pos
    have HD := hid (fun (W : World) (hb : Below w.heap.size w W) => vDistances_any a t cap W (h.below hb) hws)
    have HT := hid hws
    have HE := hid hv
    rw [hv] at HV
    clear h hv hws
    go_enter Try.func36, Try.ntmps36
    go_wp2_with fail
    refine HV.out.mono ?_
    rintro e w1 ⟨hb1, rfl⟩
    have HB1 := hid hb1
    clear hb1
    go_wp2_with fail
    refine (HD.out _ HB1.out).mono ?_
    rintro e w2 ⟨hb2, b, cnt, rfl, hge, hm⟩
    have HB2 := hid (HB1.out.trans (hb2.mono HB1.out.size))
    have HM := hid hm
    clear hb2 hm hge
    as_aux_lemma =>
    go_wp2_with fail
    go_loopw [6, 19] (fun v i wr => ∃ (k : Nat), k ≤ t.length ∧ i = .int .i64 k ∧ Hid (RowsO wr w2.heap.size v (dirTo t k)) ∧ Hid (Below w2.heap.size w2 wr)) (fun _ i _ => t.length - (intOf i).toNat)
    case atStart => exact ⟨0, Nat.zero_le _, rfl, RowsO.nil _ _, Below.refl _ _⟩
    case round =>
      obtain ⟨k, hk, rfl, HR, HB⟩ := hrel
      by_cases hlt : k < t.length
      · generalize wr = wo at *
        go_wp2_with fail
        go_loopw [8, 24] (fun v i wr => ∃ (j : Nat), j ≤ t.length ∧ i = .int .i64 j ∧ Hid (Own wr wo.heap.size v (dirRow t k j)) ∧ Hid (Below wo.heap.size wo wr)) (fun _ i _ => t.length - (intOf i).toNat)
        case atStart => exact ⟨0, Nat.zero_le _, rfl, Own.nil _ _, Below.refl _ _⟩
        case round =>
          obtain ⟨j, hj, rfl, HO, HB3⟩ := hrel
          have HBr := hid (HB.out.trans (HB3.out.mono HB.out.size))
          have hsr := HB3.out.size
          have hsb := HBr.out.size
          by_cases hlt2 : j < t.length
          · have l1 := (HM.out.below HBr.out).look k j (by omega) (by omega) _ (mapF_at hlt hlt2)
            have HT2 := hid (dirRow_succ t k j)
            have hlen := dirRow_len t k j
            have hown := HO.out
            clear HO
            generalize hpre : dirRow t k j = pre at *
            clear hpre
            generalize fwM t t.length k j = x at *
            have q1 : (k : Int) < (t.length : Int) := by omega
            have q2 : (j : Int) < (t.length : Int) := by omega
            as_aux_lemma =>
              go_wp2_with (at_builtin; refine wpList_append_own _ rfl _ _ 23 rfl wo.heap.size 3 i0 (.int .i64 0) 1 8 Try.underlying23 hinf hz0 hz1 hz2 rfl (by decide) _ _ _ rfl (hown.alloc _) ⟨wr.heap.size, 0, none⟩ 1 1 [.int .i64 x] rfl rfl ?c1 ?c2 ?c3 ?c4 ?c5 ?_)
              case c1 => exact cell_one_new _ _ _
              case c2 => simp [Value.oneCell']
              case c3 => unfold maxLen; omega
              case c4 => omega
              case c5 => simp; omega
              intro v' w4 hown2 hgrow _
              have q4 : Below wo.heap.size wr w4 := ((Below.refl wo.heap.size wr).alloc (by omega) (.cells #[.int .i64 x] 3)).grown hgrow (by simp; omega) (fun q hq => by have := (hown.lt q hq).1; omega)
              have O4 := hid (show Own w4 wo.heap.size v' (dirRow t k (j + 1)) by rw [HT2.out]; unfold Own; rw [List.length_append, List.map_append, hlen]; exact hown2)
              have B4 := hid (HB3.out.trans q4)
              clear hown2 hgrow q4
              go_wp2
              go_roundw
              case rel => exact ⟨j + 1, by omega, by go_num, O4, B4⟩
              case measure => simp [intOf]; omega
          · obtain rfl : j = t.length := by omega
            have HT2 := hid (dirTo_succ t k)
            have hlen := dirRow_len t k t.length
            have hcl := dirTo_len t k
            obtain ⟨A4, c4, hv4⟩ := own_slice HO.out
            have hO := HO.out
            subst hv4
            obtain ⟨vals, hw1, hw2⟩ := HR.out.below HB3.out
            have HRo := hid hw2
            have HOr := hid (own_weak hO HB.out.size)
            clear HO hO hw2 HR
            generalize hpre : dirRow t k t.length = pre at *
            clear hpre
            as_aux_lemma =>
              go_wp2_with (at_builtin; refine wpList_append_own _ rfl _ _ 22 rfl w2.heap.size 23 i2 (.slice none 0 0) 1 24 Try.underlying22 hinf2 hy0 hy1 hy2 rfl (by decide) _ _ _ rfl (hw1.alloc _) ⟨wr.heap.size, 0, none⟩ 1 1 [.slice A4 t.length c4] rfl rfl ?c1 ?c2 ?c3 ?c4 ?c5 ?_)
              case c1 => exact cell_one_new _ _ _
              case c2 => simp [Value.oneCell']
              case c3 => unfold maxLen; omega
              case c4 => omega
              case c5 => simp; omega
              intro v' w4 hown2 hgrow _
              have hal := (Below.refl wr.heap.size wr).alloc (Nat.le_refl _) (.cells #[.slice A4 t.length c4] 23)
              have p4 := hid ((HBr.out.alloc hsb (.cells #[.slice A4 t.length c4] 23)).grown hgrow (by simp; omega) (fun q hq => by have := (hw1.lt q hq).1; omega))
              have R4 := hid (RowsO.push (own_below hw1 hal) (fun i hi => by obtain ⟨A, c, h1, h2⟩ := HRo.out i hi; exact ⟨A, c, h1, h2.below hal⟩) (Own.below HOr.out hal) (by rw [hcl, hlen]; exact hown2) hgrow)
              clear hown2 hgrow hal hw1
              go_wp2
              go_roundw
              case rel => exact ⟨k + 1, by omega, by go_num, by rw [HT2.out]; exact R4.out, p4⟩
              case measure => simp [intOf]; omega
      · obtain rfl : k = t.length := by omega
        have HR2 := HR.out
        rw [show dirTo t t.length = dirT t from rfl] at HR2
        have hcl := dirT_len t
        obtain ⟨B, d, hv, HTab⟩ := HR2.tab (by omega) (fun i hi => by
          rw [hcl] at hi
          rw [dirT_row t i hi, dirRow_len]
          refine ⟨by omega, fun x hx => ?_⟩
          obtain ⟨j, hj, rfl⟩ := mem_vAt hx
          rw [dirRow_len] at hj
          have := fwM_bd HT.out t.length (Nat.le_refl _) i j hi hj
          rw [show vAt (dirRow t i t.length) j = fwM t t.length i j by simp [vAt, dirRow, List.getElem?_range hj]]
          omega)
        rw [hcl] at hv
        have HTb := hid HTab
        subst hv
        have HB4 := hid (HB2.out.trans (HB.out.mono HB2.out.size))
        clear HTab hcl HR HR2
        as_aux_lemma =>
          go_wp2
          go_ret2
          exact ⟨HB4.out, .inr ⟨HE.out, B, d, rfl, HTb.out⟩⟩
  · have HE := hid hv
    obtain ⟨e0, he0⟩ : ∃ e0, vaV t = e0 := ⟨_, rfl⟩
    have H0 := hid he0
    rw [he0] at HV hv
    have hne : (e0 == 0) = false := by simp; exact hv
    have hnn : (e0 != 0) = true := by simp; exact hv
    clear h he0
    go_enter Try.func36, Try.ntmps36
    go_wp2_with fail
    refine HV.out.mono ?_
    rintro e w1 ⟨hb1, rfl⟩
    have HB1 := hid hb1
    clear hb1
    go_wp2
    go_ret2
    exact ⟨HB1.out, .inl ⟨HE.out, by rw [H0.out]; rfl⟩⟩
end Go.Proofs.Ytbffdpcogfmomaa
