/- Tables of the call's own; the ways with potentials: package van. -/
import Derived.Test.YtbffdpcogfmomaaVaTree
import Derived.Test.YtbffdpcogfmomaaStepApp
set_option linter.unusedVariables false
namespace Go.Proofs.Ytbffdpcogfmomaa
open Go.RowKit

theorem ints_info : (Try.prog.info? 23).map (fun i => (i.zero, i.size, i.bytes)) = some (some (.slice none 0 0), 1, 24) := by kernel_rfl
/-- A table of the call's own. -/
def RowsO (w : World) (base : Nat) (v : Value) (t : Tbl) : Prop :=
  ∃ vals : List Value, w.ownsRow base 23 1 v t.length vals ∧ ∀ i, i < t.length → ∃ A c, vals[i]? = some (.slice A (tR t i).length c) ∧ Own w base (.slice A (tR t i).length c) (tR t i)
theorem RowsO.nil (w : World) (base : Nat) : RowsO w base (.slice none 0 0) [] := ⟨[], ⟨rfl, .inl ⟨rfl, rfl⟩⟩, fun i hi => by simp at hi⟩
theorem RowsO.below {w w' : World} {base : Nat} {v : Value} {t : Tbl} (h : RowsO w base v t) (hb : Below w.heap.size w w') : RowsO w' base v t := by
  obtain ⟨vals, h1, h2⟩ := h
  refine ⟨vals, own_below h1 hb, fun i hi => ?_⟩
  obtain ⟨A, c, h3, h4⟩ := h2 i hi
  exact ⟨A, c, h3, h4.below hb⟩
theorem RowsO.weak {w : World} {base base' : Nat} {v : Value} {t : Tbl} (h : RowsO w base v t) (hb : base' ≤ base) : RowsO w base' v t := by
  obtain ⟨vals, h1, h2⟩ := h
  refine ⟨vals, own_weak h1 hb, fun i hi => ?_⟩
  obtain ⟨A, c, h3, h4⟩ := h2 i hi
  exact ⟨A, c, h3, own_weak h4 hb⟩
theorem tR_app (t : Tbl) (r : List Int) (i : Nat) : tR (t ++ [r]) i = if i < t.length then tR t i else if i = t.length then r else [] := by
  unfold tR
  by_cases h : i < t.length
  · rw [if_pos h, List.getElem?_append_left h]
  · rw [if_neg h, List.getElem?_append_right (by omega)]
    by_cases e : i = t.length
    · subst e; simp
    · rw [if_neg e]
      have : [r][i - t.length]? = none := by simp; omega
      rw [this]; rfl
/-- A list of int that is the call's own is kept where a row of slices grows. -/
theorem own_grown_rows {w w' : World} {base b2 : Nat} {v u : Value} {n : Nat} {vals : List Value} {xs : List Int} (ho : w.ownsRow base 23 1 v n vals) (hx : Own w b2 u xs) (hg : w.grownBy w' v.ownBlock) : Own w' b2 u xs := by
  obtain ⟨h1, h2⟩ := hx
  refine ⟨h1, ?_⟩
  rcases h2 with h2 | ⟨g, cap, cur, hv, hg2, hh, r⟩
  · exact .inl h2
  · refine .inr ⟨g, cap, cur, hv, hg2, ?_, r⟩
    rw [hg.block g ((Array.getElem?_eq_some_iff.1 hh).1) ?_]
    · exact hh
    · intro e
      rcases ho.2 with ⟨hv', _⟩ | ⟨g', cap', cur', hv', _, hh', _⟩
      · rw [hv'] at e; simp [Value.ownBlock] at e
      · rw [hv'] at e
        simp only [Value.ownBlock, Option.some.injEq] at e
        subst e
        rw [hh] at hh'
        simp at hh'
theorem RowsO.push {w w' : World} {base : Nat} {v v' : Value} {t : Tbl} {A : Option Addr} {c : Nat} {r : List Int} {vals : List Value} (hcl : w.ownsRow base 23 1 v t.length vals) (hc : ∀ i, i < t.length → ∃ A c, vals[i]? = some (.slice A (tR t i).length c) ∧ Own w base (.slice A (tR t i).length c) (tR t i))
    (hr : Own w base (.slice A r.length c) r) (ho : w'.ownsRow base 23 1 v' (t.length + 1) (vals ++ [.slice A r.length c])) (hg : w.grownBy w' v.ownBlock) : RowsO w' base v' (t ++ [r]) := by
  refine ⟨vals ++ [.slice A r.length c], by rw [List.length_append]; exact ho, fun i hi => ?_⟩
  have hvl : vals.length = t.length := by have := hcl.1; omega
  rw [tR_app]
  by_cases h : i < t.length
  · rw [if_pos h]
    obtain ⟨B, d, h3, h4⟩ := hc i h
    exact ⟨B, d, by rw [List.getElem?_append_left (by omega)]; exact h3, own_grown_rows hcl h4 hg⟩
  · have e : i = t.length := by simp at hi; omega
    subst e
    rw [if_neg h, if_pos rfl]
    exact ⟨A, c, by rw [List.getElem?_append_right (by omega), hvl]; simp, own_grown_rows hcl hr hg⟩
theorem row_cell {w : World} {base : Nat} {e : TypeId} {g n c : Nat} {cl : List Value} (h : w.ownsRow base e 1 (.slice (some ⟨g, 0, none⟩) n c) n cl) (j : Nat) (u : Value) (hj : cl[j]? = some u) : w.cell? ⟨g, j, none⟩ = some u := by
  rcases h.2 with ⟨h', _⟩ | ⟨g', c', cur, h', hg, hh, hnc, hm, hs, ht⟩
  · simp at h'
  · simp only [Value.slice.injEq, Option.some.injEq, Addr.mk.injEq, and_true, true_and] at h'
    obtain ⟨rfl, rfl⟩ := h'
    unfold World.cell?
    rw [hh]
    simp only [Option.isSome_none, Bool.false_eq_true, if_false]
    rw [← ht] at hj
    rw [← Array.getElem?_toList]
    rw [List.getElem?_take] at hj
    split at hj
    · exact hj
    · cases hj
/-- As a table that reads. -/
theorem RowsO.tab {w : World} {base : Nat} {v : Value} {t : Tbl} (h : RowsO w base v t) (hl : t.length ≤ 1000) (hr : ∀ i, i < t.length → (tR t i).length ≤ 1000 ∧ ∀ x ∈ tR t i, -9223372036854775808 ≤ x ∧ x ≤ 9223372036854775807) : ∃ A c, v = .slice A t.length c ∧ TabAt w A t := by
  obtain ⟨vals, ho, hc⟩ := h
  rcases ho.2 with ⟨hv, hn⟩ | ⟨g, c, cur, hv, hg, _⟩
  · exact ⟨none, 0, by rw [hv, hn], ⟨by omega, .inl (List.eq_nil_of_length_eq_zero hn)⟩⟩
  · subst hv
    refine ⟨_, c, rfl, ⟨by omega, .inr ⟨g, 0, rfl, fun i hi => ?_⟩⟩⟩
    obtain ⟨A, d, h1, h2⟩ := hc i hi
    obtain ⟨a', c', hv', hI⟩ := h2.ints (by have := (hr i hi).1; omega) (hr i hi).2
    cases hv'
    exact ⟨A, d, by rw [Nat.zero_add]; exact row_cell ho i _ h1, hI⟩
theorem cnt_take_row (t : Tbl) (p : List Int) (i k : Nat) (hk : k < (tR t i).length) : (List.range (k + 1)).map (fun (j : Nat) => tA t i j + vAt p i + vAt p j) = (List.range k).map (fun (j : Nat) => tA t i j + vAt p i + vAt p j) ++ [tA t i k + vAt p i + vAt p k] := by
  rw [List.range_succ, List.map_append]; rfl
def cntRow (t : Tbl) (p : List Int) (i k : Nat) : List Int := (List.range k).map fun (j : Nat) => tA t i j + vAt p i + vAt p j
def cntTo (t : Tbl) (p : List Int) (k : Nat) : Tbl := (List.range k).map fun (i : Nat) => cntRow t p i (tR t i).length
theorem cntRow_succ (t : Tbl) (p : List Int) (i k : Nat) : cntRow t p i (k + 1) = cntRow t p i k ++ [tA t i k + vAt p i + vAt p k] := by
  simp only [cntRow, List.range_succ, List.map_append, List.map_cons, List.map_nil]
theorem cntRow_len (t : Tbl) (p : List Int) (i k : Nat) : (cntRow t p i k).length = k := by simp [cntRow]
theorem cntTo_succ (t : Tbl) (p : List Int) (k : Nat) : cntTo t p (k + 1) = cntTo t p k ++ [cntRow t p k (tR t k).length] := by
  simp only [cntTo, List.range_succ, List.map_append, List.map_cons, List.map_nil]
theorem cntTo_len (t : Tbl) (p : List Int) (k : Nat) : (cntTo t p k).length = k := by simp [cntTo]
theorem cntTo_all (t : Tbl) (p : List Int) : cntTo t p t.length = cntT t p := rfl
set_option maxRecDepth 100000 in
set_option maxHeartbeats 4000000 in
theorem vCounted_any (a A : Option Addr) (t : Tbl) (p : List Int) (cap c : Nat) (w : World) (h : TabAt w a t) (hi : Ints w A p) (ht : Ways t) (hp : Pots p t.length) :
  Calls Try.prog 95 #[.slice a t.length cap, .slice A p.length c] w (fun en w' => Below w.heap.size w w' ∧ ∃ B d, en = .returned (.slice B t.length d) ∧ TabAt w' B (cntT t p)) := by
  obtain ⟨i0, hinf, hz0, hz1, hz2⟩ := info_parts int_info
  obtain ⟨i2, hinf2, hy0, hy1, hy2⟩ := info_parts ints_info
  have hl7 := ht.len
  have hpos := ht.pos
  have hpl := hp.len
  obtain ⟨b, off, rfl, hc⟩ := h.sq ht.sq hpos
  obtain ⟨b1, o1, rfl, hc1⟩ := hi.at' (by omega)
  have HC := hid (fun (w' : World) (hb : Below w.heap.size w w') => show ∀ i, i < t.length → ∃ b2 o2 c, w'.cell? ⟨b, off + i, none⟩ = some (.slice (some ⟨b2, o2, none⟩) t.length c) ∧ ∀ j, j < t.length → w'.cell? ⟨b2, o2 + j, none⟩ = some (.int .i64 (tA t i j)) from fun i hi => by
    obtain ⟨b2, o2, c, h1, _, h3⟩ := hc i hi
    exact ⟨b2, o2, c, by rw [hb.cell (cell_lt h1)]; exact h1, fun j hj => by rw [hb.cell (cell_lt (h3 j hj))]; exact h3 j hj⟩)
  have HP := hid (fun (w' : World) (hb : Below w.heap.size w w') => show ∀ j, j < t.length → w'.cell? ⟨b1, o1 + j, none⟩ = some (.int .i64 (vAt p j)) from fun j hj => by
    have := hc1 j (by omega)
    rw [hb.cell (cell_lt this)]; exact this)
  have HT := hid ht
  have HPo := hid hp
  clear h hi hc hc1 ht hp
  rw [hpl]
  clear hpl
  go_enter Try.func95, Try.ntmps95
  go_wp2_with fail
  go_loopw [5, 13] (fun v i wr => ∃ (k : Nat), k ≤ t.length ∧ i = .int .i64 k ∧ Hid (RowsO wr w.heap.size v (cntTo t p k)) ∧ Hid (Below w.heap.size w wr)) (fun _ i _ => t.length - (intOf i).toNat)
  case atStart => exact ⟨0, Nat.zero_le _, rfl, RowsO.nil _ _, Below.refl _ _⟩
  case round =>
    obtain ⟨k, hk, rfl, HR, HB⟩ := hrel
    by_cases hlt : k < t.length
    · generalize wr = wo at *
      obtain ⟨b2, o2, c2, g1, hg2⟩ := HC.out wo HB.out k hlt
      have HG2 := hid (fun (w' : World) (hb : Below wo.heap.size wo w') => show ∀ j, j < t.length → w'.cell? ⟨b2, o2 + j, none⟩ = some (.int .i64 (tA t k j)) from fun j hj => by
        rw [hb.cell (cell_lt (hg2 j hj))]; exact hg2 j hj)
      clear hg2
      go_wp2_with fail
      go_loopw [8, 20] (fun v i wr => ∃ (j : Nat), j ≤ t.length ∧ i = .int .i64 j ∧ Hid (Own wr wo.heap.size v (cntRow t p k j)) ∧ Hid (Below wo.heap.size wo wr)) (fun _ i _ => t.length - (intOf i).toNat)
      case atStart => exact ⟨0, Nat.zero_le _, rfl, Own.nil _ _, Below.refl _ _⟩
      case round =>
        obtain ⟨j, hj, rfl, HO, HB2⟩ := hrel
        clear g1
        have HBr := hid (HB.out.trans (HB2.out.mono HB.out.size))
        have hsr := HB2.out.size
        by_cases hlt2 : j < t.length
        · have d1 := HG2.out wr HB2.out j hlt2
          have d2 := HP.out wr HBr.out k hlt
          have d3 := HP.out wr HBr.out j hlt2
          have y1 := HT.out.bd k j hlt hlt2
          have y2 := HPo.out.at_ k hlt
          have y3 := HPo.out.at_ j hlt2
          have HT2 := hid (cntRow_succ t p k j)
          have hlen := cntRow_len t p k j
          have hown := HO.out
          clear HO
          generalize hpre : cntRow t p k j = pre at *
          clear hpre
          generalize tA t k j = x at *
          generalize vAt p k = y at *
          generalize vAt p j = z at *
          have q1 : (k : Int) < (t.length : Int) := by omega
          have q2 : (j : Int) < (t.length : Int) := by omega
          have s1 : IntKind.i64.wrap (x + y) = x + y := IntWalk.i64_in _ (by omega)
          have s2 : IntKind.i64.wrap (x + y + z) = x + y + z := IntWalk.i64_in _ (by omega)
          go_wp2_with fail
          go_region_law (refine step_append_own rfl _ _ 23 rfl wo.heap.size 3 i0 (.int .i64 0) 1 8 Try.underlying23 hinf hz0 hz1 hz2 rfl (by decide) _ pre.length (pre.map (Value.int .i64)) (by simp [Act.eval]; rfl) (by exact hown.alloc _) ⟨wr.heap.size, 0, none⟩ 1 1 [.int .i64 (x + y + z)] (by simp [Act.eval]) rfl (cell_one_new _ _ _) (by simp [Value.oneCell']) (by unfold maxLen; omega) (by omega) (by simp; omega) ?_; intro v' w4 hown2 hgrow; have q4 : Below wo.heap.size wr w4 := ((Below.refl wo.heap.size wr).alloc (by omega) (.cells #[.int .i64 (x + y + z)] 3)).drew.grown hgrow (by simp; omega) (fun q hq => by have := (hown.lt q hq).1; omega))
          all_goals
            have O4 := hid (show Own w4 wo.heap.size v' (cntRow t p k (j + 1)) by rw [HT2.out]; unfold Own; rw [List.length_append, List.map_append]; exact hown2)
            have B4 := hid (HB2.out.trans q4)
            clear hown2 hgrow q4
            go_wp2
            go_roundw
            case rel => exact ⟨j + 1, by omega, by go_num, O4, B4⟩
            case measure => simp [intOf]; omega
        · obtain rfl : j = t.length := by omega
          have HT2 := hid (cntTo_succ t p k)
          rw [HT.out.rows k hlt] at HT2
          have hlen := cntRow_len t p k t.length
          have hcl := cntTo_len t p k
          obtain ⟨A4, c4, hv4⟩ := own_slice HO.out
          have hO := HO.out
          subst hv4
          obtain ⟨vals, hw1, hw2⟩ := HR.out.below HB2.out
          have HRo := hid hw2
          have HOr := hid (own_weak hO HB.out.size)
          clear HO hO hw2 HR
          generalize hpre : cntRow t p k t.length = pre at *
          clear hpre
          have hbb := HBr.out.size
          go_wp2_with (at_builtin; refine wpList_append_own _ rfl _ _ 22 rfl w.heap.size 23 i2 (.slice none 0 0) 1 24 Try.underlying22 hinf2 hy0 hy1 hy2 rfl (by decide) _ _ _ rfl (hw1.alloc _) ⟨wr.heap.size, 0, none⟩ 1 1 [.slice A4 t.length c4] rfl rfl ?c1 ?c2 ?c3 ?c4 ?c5 ?_)
          case c1 => exact cell_one_new _ _ _
          case c2 => simp [Value.oneCell']
          case c3 => unfold maxLen; omega
          case c4 => omega
          case c5 => simp; omega
          intro v' w4 hown2 hgrow _
          have hal := (Below.refl wr.heap.size wr).alloc (Nat.le_refl _) (.cells #[.slice A4 t.length c4] 23)
          have p4 := hid ((HBr.out.alloc hbb (.cells #[.slice A4 t.length c4] 23)).grown hgrow (by simp; omega) (fun q hq => by have := (hw1.lt q hq).1; omega))
          have R4 := hid (RowsO.push (own_below hw1 hal) (fun i hi => by obtain ⟨A, c, h1, h2⟩ := HRo.out i hi; exact ⟨A, c, h1, h2.below hal⟩) (Own.below HOr.out hal) (by rw [hcl, hlen]; exact hown2) hgrow)
          clear hown2 hgrow hal hw1
          go_wp2
          go_roundw
          case rel => exact ⟨k + 1, by omega, by go_num, by rw [HT2.out]; exact R4.out, p4⟩
          case measure => simp [intOf]; omega
    · obtain rfl : k = t.length := by omega
      rw [cntTo_all] at HR
      have hcl := cntT_len t p
      have hsq := cnt_sq HT.out HPo.out
      obtain ⟨B, d, hv, HTab⟩ := HR.out.tab (by omega) (fun i hi => by
        rw [hcl] at hi
        rw [hsq.rows i hi]
        refine ⟨by omega, fun x hx => ?_⟩
        obtain ⟨j, hj, rfl⟩ := mem_vAt hx
        rw [hsq.rows i hi] at hj
        have := hsq.bd i j hi hj
        rw [show vAt (tR (cntT t p) i) j = tA (cntT t p) i j from rfl]
        omega)
      rw [hcl] at hv
      have HTb := hid HTab
      subst hv
      clear HTab hsq hcl HR
      go_wp2
      go_ret
      exact ⟨HB.out, B, d, rfl, HTb.out⟩
end Go.Proofs.Ytbffdpcogfmomaa
