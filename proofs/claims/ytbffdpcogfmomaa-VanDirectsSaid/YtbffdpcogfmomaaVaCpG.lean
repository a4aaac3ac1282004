/- The document's copy of any table that is not large: chapter 8. -/
import Derived.Test.YtbffdpcogfmomaaVaCp
set_option linter.unusedVariables false
namespace Go.Proofs.Ytbffdpcogfmomaa
open Go.RowKit

theorem take_rowV (t : Tbl) (k : Nat) (h : k < t.length) : t.take (k + 1) = t.take k ++ [tR t k] := by
  rw [List.take_add_one, List.getElem?_eq_getElem h]
  simp [tR, List.getElem?_eq_getElem h]
theorem tR_memV {t : Tbl} {k : Nat} (h : k < t.length) : tR t k ∈ t := by simp [tR, h]
set_option maxRecDepth 100000 in
set_option maxHeartbeats 4000000 in
theorem rCopy_any (a : Option Addr) (t : Tbl) (cap : Nat) (w : World) (h : TabAt w a t) (hl : t.length ≤ 30) (hr : ∀ r ∈ t, r.length ≤ 30) : Calls Try.prog 35 #[.slice a t.length cap] w (fun en w' => Below w.heap.size w w' ∧ ∃ B d, en = .returned (.slice B t.length d) ∧ TabAt w' B t) := by
  obtain ⟨i0, hinf, hz0, hz1, hz2⟩ := info_parts int_info
  obtain ⟨i2, hinf2, hy0, hy1, hy2⟩ := info_parts ints_info
  have HH := hid h
  have HRw := hid hr
  clear h hr
  go_enter Try.func35, Try.ntmps35
  go_wp2_with fail
  go_loopw [3, 4] (fun v i wr => ∃ (k : Nat), k ≤ t.length ∧ i = .int .i64 k ∧ Hid (RowsO wr w.heap.size v (t.take k)) ∧ Hid (Below w.heap.size w wr)) (fun _ i _ => t.length - (intOf i).toNat)
  case atStart => exact ⟨0, Nat.zero_le _, rfl, RowsO.nil _ _, Below.refl _ _⟩
  case round =>
    obtain ⟨k, hk, rfl, HW, HB⟩ := hrel
    by_cases hlt : k < t.length
    · obtain ⟨b, off, rfl, hc⟩ := (HH.out.below HB.out).open_ (by omega)
      obtain ⟨A2, c2, g1, gI⟩ := hc k hlt
      have hal := (Below.refl wr.heap.size wr).alloc (Nat.le_refl _) (.cells #[] 3)
      have hrl := HRw.out _ (tR_memV hlt)
      have HBd := hid gI.bd
      have HSr := hid (src_ints (gI.below hal))
      have HOn := hid (ints_one (tR t k))
      have HLn := hid (show ((tR t k).map (Value.int .i64)).length = (tR t k).length * 1 by rw [List.length_map, Nat.mul_one])
      have HTk := hid (take_rowV t k hlt)
      have htk : (t.take k).length = k := by rw [List.length_take]; omega
      have HTl := hid htk
      have hbb := HB.out.size
      have q1 : (k : Int) < (t.length : Int) := by omega
      have HE := hid (show (wr.alloc (.cells #[] 3)).ownsRow wr.heap.size 3 1 (.slice (some ⟨wr.heap.size, 0, none⟩) 0 0) 0 [] from World.ownsRow_lit wr #[] 0 (Nat.le_refl _) (by decide) rfl)
      have Hal := hid hal
      have g1' := (hal.cell (cell_lt g1)).trans g1
      obtain ⟨row, hrow⟩ : ∃ row, tR t k = row := ⟨_, rfl⟩
      rw [hrow] at HSr HOn HLn HTk hrl g1' g1
      obtain ⟨n, hn⟩ : ∃ n, row.length = n := ⟨_, rfl⟩
      have HN := hid hn
      rw [hn] at HLn HSr hrl g1'
      clear hc gI hal g1 hn hrow htk
      go_wp2_with (at_builtin; (refine wpList_append_src rfl _ _ 23 rfl wr.heap.size 3 i0 (.int .i64 0) 1 8 Try.underlying23 hinf hz0 hz1 hz2 rfl (by decide) _ 0 [] rfl HE.out _ n c2 (row.map (Value.int .i64)) rfl HLn.out HSr.out HOn.out (by unfold maxLen; omega) (by omega) (by simp) ?_))
      intro v4 w4 hown4 hgrow4
      have O4 : Own w4 wr.heap.size v4 row := by
        unfold Own
        rw [HN.out]
        simpa using hown4
      have p4 : Below wr.heap.size wr w4 := Hal.out.grown hgrow4 (by simp) (fun q hq => by simp [Value.ownBlock] at hq; omega)
      obtain ⟨A4, c4, hv4⟩ := own_slice O4
      rw [HN.out] at hv4
      subst hv4
      obtain ⟨vals, hr1, hr2⟩ := HW.out.below p4
      have HR2 := hid hr2
      have HO4 := hid O4
      have HB4 := hid (HB.out.trans (p4.mono HB.out.size))
      have hbs4 : w.heap.size ≤ w4.heap.size := HB4.out.size
      clear hown4 hgrow4 O4 p4 hr2
      rw [HTl.out] at hr1
      as_aux_lemma =>
        go_wp2_with (at_builtin; refine wpList_append_own _ rfl _ _ 22 rfl w.heap.size 23 i2 (.slice none 0 0) 1 24 Try.underlying22 hinf2 hy0 hy1 hy2 rfl (by decide) _ _ _ rfl (hr1.alloc _) ⟨w4.heap.size, 0, none⟩ 1 1 [.slice A4 n c4] rfl rfl ?c1 ?c2 ?c3 ?c4 ?c5 ?_)
        case c1 => exact cell_one_new _ _ _
        case c2 => simp [Value.oneCell']
        case c3 => unfold maxLen; omega
        case c4 => omega
        case c5 => simp; omega
        intro v' w6 hown6 hgrow6 _
        have hal6 := (Below.refl w4.heap.size w4).alloc (Nat.le_refl _) (.cells #[.slice A4 n c4] 23)
        have p6 := hid ((HB4.out.alloc hbs4 (.cells #[.slice A4 n c4] 23)).grown hgrow6 (by simp; omega) (fun q hq => by have := (hr1.lt q hq).1; omega))
        have hr1' := hr1
        rw [← HTl.out] at hr1'
        have hro := own_weak HO4.out HB.out.size
        have T6 := hid (RowsO.push (r := row) (own_below hr1' hal6) (fun i hi => by obtain ⟨A, c, h1, h2⟩ := HR2.out i hi; exact ⟨A, c, h1, h2.below hal6⟩) (A := A4) (c := c4) (Own.below (by rw [HN.out]; unfold Own; rw [HN.out]; rw [HN.out] at hro; exact hro) hal6) (by rw [HTl.out, HN.out]; exact hown6) hgrow6)
        clear hown6 hgrow6 hal6 hr1 hr1' hro
        go_wp2
        go_roundw
        case rel => exact ⟨k + 1, by omega, by go_num, by rw [HTk.out]; exact T6.out, p6⟩
        case measure => simp [intOf]; omega
    · obtain rfl : k = t.length := by omega
      have HR := HW.out
      rw [List.take_length] at HR
      obtain ⟨B, d, hv, HTab⟩ := HR.tab (by omega) (fun i hi => ⟨Nat.le_trans (HRw.out _ (tR_memV hi)) (by decide), fun x hx => by
        obtain ⟨b, off, _, hc⟩ := HH.out.open_ (by omega)
        obtain ⟨A2, c2, _, gI⟩ := hc i hi
        exact gI.bd x hx⟩)
      have HTb := hid HTab
      subst hv
      clear HTab HR HW
      as_aux_lemma =>
        go_wp2
        go_ret
        exact ⟨HB.out, B, d, rfl, HTb.out⟩
end Go.Proofs.Ytbffdpcogfmomaa
