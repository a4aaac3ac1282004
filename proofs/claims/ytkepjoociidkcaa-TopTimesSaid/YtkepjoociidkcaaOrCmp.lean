/- Compact tables: package order, and the document's own. -/
import Derived.Test.YtkepjoociidkcaaOrCmpM
import Derived.Test.YtkepjoociidkcaaOrAdds
import Derived.Test.YtkepjoociidkcaaOrP
import Derived.Deep.RegionHeld3
set_option linter.unusedVariables false
namespace Go.Proofs.Ytkepjoociidkcaa
open Go.RowKit

theorem optG_gS (l : List Fct) (c : Int) (n : Nat) : optG (gS (recTo l c n)) = gMeal l c n := by
  funext d
  unfold optG gS gMeal
  rw [mealR_rec]
  by_cases h : mealK l c d n = 0
  · rw [if_pos h, if_neg (by simp [h])]
  · rw [if_neg h, if_pos (by simp [h])]
/-- A row that lies outside of a stretch of blocks. -/
def Far (o : Value) (lo hi : Nat) : Prop := ∀ q, o.ownBlock = some q → q < lo ∨ hi ≤ q
def Between (B : Option Addr) (s : List Spn) (lo hi : Nat) : Prop := ∀ ad, B = some ad → s ≠ [] → lo ≤ ad.block ∧ ad.block < hi
theorem SpnsAt.grown {W W' : World} {B : Option Addr} {s : List Spn} {row : Option Nat} {lo hi : Nat} (h : SpnsAt W B s) (hb : Between B s lo hi) (hg : W.grownBy W' row) (hrow : ∀ q, row = some q → q < lo ∨ hi ≤ q) : SpnsAt W' B s := by
  refine ⟨h.len, ?_⟩
  rcases h.at_ with e | ⟨b, off, ha, hc⟩
  · exact .inl e
  · by_cases hs : s = []
    · exact .inl hs
    · obtain ⟨h1, h2⟩ := hb _ ha hs
      dsimp only at h1 h2
      have hne : some b ≠ row := by
        intro e
        have := hrow b e.symm
        omega
      refine .inr ⟨b, off, ha, fun i hi => ?_⟩
      obtain ⟨c0, c1, c2⟩ := hc i hi
      exact ⟨by rw [hg.cell_far _ (cell_lt c0) hne]; exact c0, by rw [hg.cell_far _ (cell_lt c1) hne]; exact c1, by rw [hg.cell_far _ (cell_lt c2) hne]; exact c2⟩
theorem SpnsAt.between {W : World} {B : Option Addr} {s : List Spn} (h : SpnsAt W B s) {lo : Nat} (hn : ∀ ad, B = some ad → lo ≤ ad.block) : Between B s lo W.heap.size := by
  intro ad ha hs
  refine ⟨hn ad ha, ?_⟩
  rcases h.at_ with e | ⟨b, off, hb, hc⟩
  · exact absurd e hs
  · rw [ha] at hb
    cases hb
    have : 0 < s.length := List.length_pos_iff.2 hs
    exact cell_lt (hc 0 this).1
def cmpL (l : List Fct) (at_ : Int) : List Fct × Int := if validE l = 0 then (if 60 < (cmpTo l (cutL at_ l) 100).length then ([], 4) else (cmpTo l (cutL at_ l) 100, 0)) else ([], validE l)

set_option maxRecDepth 100000 in
set_option maxHeartbeats 4000000 in
theorem Compact_any (a : Option Addr) (l : List Fct) (cap : Nat) (at_ : Int) (w : World) (hl : FactsAt w a l) (hcap : l.length ≤ cap) :
  Calls Try.prog 34 #[.slice a l.length cap, .int .i64 at_] w (FactsR w (cmpL l at_)) := by
  obtain ⟨i0, hinf, hz0, hz1, hz2⟩ := info_parts fc_info
  have hlen := hl.len
  have HV := hid (validate_any a l cap w hl)
  by_cases h0 : validE l = 0
  · have HM := hid (show cmpL l at_ = if 60 < (cmpTo l (cutL at_ l) 100).length then ([], 4) else (cmpTo l (cutL at_ l) 100, 0) from if_pos h0)
    obtain ⟨h60, _, hs⟩ := validE_ok h0
    rw [h0] at HV
    have HL := hid hl
    have HSo := hid hs
    have hcl := cutL_le at_ l
    clear h0 hl hs
    go_enter Try.func34, Try.ntmps34
    go_wp2_with fail
    refine HV.out.mono ?_
    rintro e w0 ⟨q0, rfl⟩
    go_wp2
    go_loopw [7, 16] (fun o i wr => ∃ k : Nat, k ≤ 100 ∧ i = .int .i64 k ∧ Hid (OwnF wr w.heap.size o (cmpTo l (cutL at_ l) k)) ∧ Below w.heap.size w wr) (fun _ i _ => 100 - (intOf i).toNat)
    case atStart => exact ⟨0, Nat.zero_le _, rfl, OwnF.nil _ _, q0⟩
    case round =>
      obtain ⟨k, hk, rfl, HO, hB⟩ := hrel
      by_cases hlt : k < 100
      · have HW := hid (written_any a l cap at_ wr (HL.out.below hB) HSo.out hcap)
        have HG := hid (optG_gS l (k : Int) (cutL at_ l))
        have HT := hid (cmpTo_succ l (cutL at_ l) k)
        have hkl := cmpTo_len l (cutL at_ l) k
        go_wp2_with fail
        refine HW.out.mono ?_
        rintro e w2 ⟨q2, rfl⟩
        have p2 := hB.trans (q2.mono hB.size)
        have HR := hid (recordOf_any a l (cutL at_ l) (cutL at_ l) (k : Int) w2 (HL.out.below p2) hcl (by omega))
        go_wp2_with fail
        refine HR.out.mono ?_
        rintro e w3 ⟨q3, A, cc, rfl, hA⟩
        have p3 := p2.trans (q3.mono p2.size)
        have HS := hid (rspans_mo A _ cc w3 hA)
        rw [HG.out] at HS
        have hsl := spTo_len (gMeal l (k : Int) (cutL at_ l)) 1000
        generalize spTo (gMeal l (k : Int) (cutL at_ l)) 1000 = s at *
        have hfar0 := hid (fun q (hq : u7.ownBlock = some q) => (HO.out.lt q hq).2)
        have hsz3 : wr.heap.size ≤ w3.heap.size := by have := q2.size; have := q3.size; omega
        go_wp2_with fail
        refine HS.out.mono ?_
        rintro e w4 ⟨q4, B, cb, rfl, hBs, hNw⟩
        have p4 := p3.trans (q4.mono p3.size)
        have HO4 := hid (own_below (own_below (own_below HO.out q2) q3) q4)
        have HBt := hid (hBs.between hNw)
        have HSp := hid hBs
        have HFr := hid (show Far u7 w3.heap.size w4.heap.size from fun q hq => .inl (Nat.lt_of_lt_of_le (hfar0.out q hq) hsz3))
        have HP4 := hid p4
        have hbl := hBs.len
        clear HO HW HR HS hA hBs hNw q2 q3 q4 p2 p3 HG hfar0
        generalize cmpTo l (cutL at_ l) k = pre at *
        have hp4 := p4.size
        generalize w3.heap.size = lo at *
        go_wp2
        go_loopw [7, 26] (fun o j wx => ∃ n : Nat, n ≤ s.length ∧ j = .int .i64 n ∧ Hid (OwnF wx w.heap.size o (pre ++ toF (k : Int) (s.take n))) ∧ Hid (Far o lo w4.heap.size) ∧ Hid (SpnsAt wx B s) ∧ Below w.heap.size w wx ∧ w4.heap.size ≤ wx.heap.size) (fun _ j _ => s.length - (intOf j).toNat)
        case atStart => exact ⟨0, Nat.zero_le _, rfl, by unfold Hid OwnF; simpa [toF] using HO4.out, HFr, HSp, p4, Nat.le_refl _⟩
        case round =>
          clear HFr HSp HO4
          obtain ⟨n, hn, rfl, HI, HFr, HSp, hB, hB4⟩ := hrel
          have hpl : (pre ++ toF (k : Int) (s.take n)).length ≤ k * 1000 + 1000 := by rw [List.length_append, toF_len]; simp; omega
          by_cases hlt2 : n < s.length
          · have HS2 := HSp.out
            rcases HSp.out.at_ with e | ⟨b, off, rfl, hc⟩
            · rw [e] at hlt2; simp at hlt2
            obtain ⟨c0, c1, c2⟩ := hc n hlt2
            have HTk := hid (toF_take (k : Int) s n hlt2)
            clear hc
            have HSA := hid (((HS2.below (below_new _ (.cells #[.int .i64 (sAt s n).f, .int .i64 (sAt s n).t, .int .i64 (sAt s n).m] 66))).below (below_new _ (.cells #[.int .i64 0, .int .i64 (k : Int), .int .i64 (sAt s n).f, .int .i64 (sAt s n).t, .int .i64 (sAt s n).m] 24))))
            generalize sAt s n = x at *
            have HX := hid (show pre ++ toF (k : Int) (s.take (n + 1)) = (pre ++ toF (k : Int) (s.take n)) ++ [⟨0, k, x.f, x.t, x.m⟩] by rw [HTk.out, List.append_assoc])
            generalize pre ++ toF (k : Int) (s.take n) = ys at *
            have hS2 := HI.out
            have hzB := hB.size
            clear HI HTk HSp HS2
            go_wp2_with (at_builtin; refine wpList_append_lies _ rfl _ _ 22 rfl w.heap.size 24 i0 (.agg #[.int .i64 0, .int .i64 0, .int .i64 0, .int .i64 0, .int .i64 0]) 5 40 Try.underlying22 hinf hz0 hz1 hz2 rfl (by decide) _ _ _ rfl ((hS2.alloc _).alloc _) ⟨wr.heap.size + 1, 0, none⟩ 1 1 [.int .i64 0, .int .i64 (k : Int), .int .i64 x.f, .int .i64 x.t, .int .i64 x.m] rfl rfl ?d1 ?d2 (by decide) ?d3 ?d4 ?d5 _ rfl ?_)
            try case d1 =>
              have := World.news_of_block (cs := #[.int .i64 0, .int .i64 (k : Int), .int .i64 x.f, .int .i64 x.t, .int .i64 x.m]) (t := 24) (fr := (0, 0)) (heap_alloc_new (wr.alloc (.cells #[.int .i64 x.f, .int .i64 x.t, .int .i64 x.m] 66)) (.cells #[.int .i64 0, .int .i64 (k : Int), .int .i64 x.f, .int .i64 x.t, .int .i64 x.m] 24))
              simpa using this
            case d2 => simp [Value.oneCell']
            case d3 => unfold maxLen; omega
            case d4 => omega
            case d5 => first | omega | (simp; omega) | (simp <;> omega)
            intro g c6 w6 hown2 hgrow hat hgl
            have p6 := ((hB.alloc hB.size _).alloc (by first | omega | (simp; omega) | (simp <;> omega)) _).grown hgrow (by first | omega | (simp; omega) | (simp <;> omega)) (fun q hq => (hS2.lt q hq).1)
            have HS6 := hid (HSA.out.grown HBt.out hgrow HFr.out)
            have hz6 : w4.heap.size ≤ w6.heap.size := by have := hgrow.size; (try simp at this); omega
            have HF6 := hid (show Far (.slice (some ⟨g, 0, none⟩) (ys.length + 1) c6) lo w4.heap.size from fun q hq => by
              have : g = q := by simpa [Value.ownBlock] using hq
              subst this
              rcases hat with h | h
              · exact HFr.out _ h
              · right; (try simp at h); omega)
            clear hgrow hS2 hat HSA HFr
            go_wp2
            go_roundw
            case rel => exact ⟨n + 1, by omega, by go_num, by unfold Hid OwnF; rw [HX.out, fcCells_snoc]; simpa using hown2, HF6, HS6, p6, hz6⟩
            case measure => simp [intOf]; omega
          · obtain rfl : n = s.length := by omega
            have HX := hid (show pre ++ toF (k : Int) (s.take s.length) = cmpTo l (cutL at_ l) (k + 1) by rw [HT.out, List.take_length])
            go_wp2
            go_roundw
            case rel => exact ⟨k + 1, by omega, by go_num, by unfold Hid; rw [← HX.out]; exact HI.out, hB⟩
            case measure => simp [intOf]; omega
      · obtain rfl : k = 100 := by omega
        have hkl := cmpTo_len l (cutL at_ l) 100
        generalize cmpTo l (cutL at_ l) 100 = ms at *
        obtain ⟨A, c, rfl, hcl⟩ := HO.out.sl
        have hat := hid (HO.out.at_ (by omega))
        by_cases hm : 60 < ms.length
        · have HX := hid ((HM.out).trans (if_pos hm))
          have hm' : (60 : Int) < (ms.length : Int) := by omega
          go_wp2
          go_ret2
          exact ⟨hB, none, 0, by rw [HX.out]; rfl, by rw [HX.out]; exact Nat.le_refl _, by rw [HX.out]; exact factsNil _⟩
        · have HX := hid ((HM.out).trans (if_neg hm))
          have hm' : (ms.length : Int) ≤ 60 := by omega
          go_wp2
          go_ret2
          exact ⟨hB, A, c, by rw [HX.out]; rfl, by rw [HX.out]; exact hcl, by rw [HX.out]; exact hat.out⟩
  · have HM := hid (show cmpL l at_ = ([], validE l) from if_neg h0)
    have h0' : (validE l != 0) = true := by simp [h0]
    clear h0 hl
    generalize validE l = x at *
    go_enter Try.func34, Try.ntmps34
    go_wp2_with fail
    refine HV.out.mono ?_
    rintro e w1 ⟨q1, rfl⟩
    go_wp2
    go_ret2
    exact ⟨q1, none, 0, by rw [HM.out]; rfl, by rw [HM.out]; exact Nat.le_refl _, by rw [HM.out]; exact factsNil _⟩

theorem named_iff (l : List Fct) (c : Int) (k : Nat) : ((l.take k).any (fun f => f.c == c)) = false → ∀ i, i < k → i < l.length → (fAt l i).c ≠ c := by
  intro h i hi hl e
  rw [List.any_eq_false] at h
  have hm : fAt l i ∈ l.take k := by
    unfold fAt
    rw [List.getElem?_eq_getElem hl]
    exact List.mem_take_iff_getElem.2 ⟨i, by omega, rfl⟩
  have := h _ hm
  simp [e] at this
def namedB (l : List Fct) (c : Int) : Bool := l.any (fun f => f.c == c)

set_option maxHeartbeats 1000000 in
theorem rnamed_any (a : Option Addr) (l : List Fct) (cap : Nat) (c : Int) (w : World) (hl : FactsAt w a l) : Calls Try.prog 68 #[.slice a l.length cap, .int .i64 c] w (SaysR w (namedB l c)) := by
  have hlen := hl.len
  have HL := hid hl
  clear hl
  have HN := hid (show namedB l c = (l.drop 0).any (fun f => f.c == c) from rfl)
  go_enter Try.func68, Try.ntmps68
  go_wp2
  go_loopw [5] (fun i wr => ∃ k : Nat, k ≤ l.length ∧ i = .int .i64 k ∧ wr = w ∧ Hid (namedB l c = (l.drop k).any (fun f => f.c == c))) (fun i _ => l.length - (intOf i).toNat)
  case atStart => exact ⟨0, Nat.zero_le _, rfl, rfl, HN⟩
  case round =>
    clear HN
    obtain ⟨k, hk, rfl, rfl, HN⟩ := hrel
    by_cases hlt : k < l.length
    · rcases HL.out.at_ with e | ⟨b, off, rfl, hc⟩
      · rw [e] at hlt; simp at hlt
      obtain ⟨c0, c1, c2, c3, c4⟩ := hc k hlt
      have i0 : (0 : Int) ≤ (k : Int) := by omega
      have i1 : (k : Int) < (l.length : Int) := by omega
      have HD := hid (show namedB l c = ((fAt l k).c == c || (l.drop (k + 1)).any (fun f => f.c == c)) by rw [HN.out, fAt_drop l k hlt]; rfl)
      clear hc
      generalize fAt l k = x at *
      cases he : (x.c == c) with
      | true =>
        rw [he] at HD
        go_wp2
        go_ret
        exact ⟨rfl, by rw [HD.out]; rfl⟩
      | false =>
        rw [he] at HD
        go_wp2
        go_roundw
        case rel => exact ⟨k + 1, by omega, by go_num, by first | rfl | trivial, by unfold Hid; rw [HD.out]; rfl⟩
        case measure => simp [intOf]; omega
    · go_wp2
      go_ret
      exact ⟨rfl, by rw [HN.out, List.drop_of_length_le (by omega)]; rfl⟩
theorem unnamed_next {l : List Fct} {n k : Nat} (h : namedB l (k : Int) = false) (hn : n ≤ l.length) : cmpTo l n (k + 1) = cmpTo l n k := by
  have h2 := named_iff l (k : Int) l.length (by rw [List.take_length]; exact h)
  rw [cmpTo_succ, unnamed_sp (fun i hi => h2 i hi hi) n hn]
  simp [toF]

set_option maxRecDepth 100000 in
set_option maxHeartbeats 4000000 in
theorem rCompact_any (a : Option Addr) (l : List Fct) (cap : Nat) (at_ : Int) (w : World) (hl : FactsAt w a l) :
  Calls Try.prog 35 #[.slice a l.length cap, .int .i64 at_] w (FactsR w (cmpL l at_)) := by
  obtain ⟨i0, hinf, hz0, hz1, hz2⟩ := info_parts fc_info
  have hlen := hl.len
  have HV := hid (rvalidate_any a l cap w hl)
  by_cases h0 : validE l = 0
  · have HM := hid (show cmpL l at_ = if 60 < (cmpTo l (cutL at_ l) 100).length then ([], 4) else (cmpTo l (cutL at_ l) 100, 0) from if_pos h0)
    obtain ⟨h60, hf, hs⟩ := validE_ok h0
    rw [h0] at HV
    have HL := hid hl
    have hcl := cutL_le at_ l
    have HG := hid (fun c => (spans_eq hf hs c at_).symm.trans (congrArg (fun g => spTo g 1000) (optG_gS l c (cutL at_ l))))
    have HUn := hid (fun k h => unnamed_next (l := l) (n := cutL at_ l) (k := k) h hcl)
    clear h0 hl hs hf
    go_enter Try.func35, Try.ntmps35
    go_wp2_with fail
    refine HV.out.mono ?_
    rintro e w0 ⟨q0, rfl⟩
    go_wp2
    go_loopw [7, 8] (fun o i wr => ∃ k : Nat, k ≤ 100 ∧ i = .int .i64 k ∧ Hid (OwnF wr w.heap.size o (cmpTo l (cutL at_ l) k)) ∧ Below w.heap.size w wr) (fun _ i _ => 100 - (intOf i).toNat)
    case atStart => exact ⟨0, Nat.zero_le _, rfl, OwnF.nil _ _, q0⟩
    case round =>
      obtain ⟨k, hk, rfl, HO, hB⟩ := hrel
      by_cases hlt : k < 100
      · have HW := hid (rnamed_any a l cap (k : Int) wr (HL.out.below hB))
        have HT := hid (cmpTo_succ l (cutL at_ l) k)
        have hkl := cmpTo_len l (cutL at_ l) k
        cases hnm : namedB l (k : Int) with
        | false =>
          rw [hnm] at HW
          have HX := hid (HUn.out k hnm)
          go_wp2_with fail
          refine HW.out.mono ?_
          rintro e w' ⟨rfl, rfl⟩
          go_wp2
          go_roundw
          case rel => exact ⟨k + 1, by omega, by go_num, by unfold Hid; rw [HX.out]; exact HO.out, hB⟩
          case measure => simp [intOf]; omega
        | true =>
        rw [hnm] at HW
        have HS := hid (rordered_own a l cap at_ (k : Int) wr (HL.out.below hB))
        rw [HG.out] at HS
        have hsl := spTo_len (gMeal l (k : Int) (cutL at_ l)) 1000
        generalize spTo (gMeal l (k : Int) (cutL at_ l)) 1000 = s at *
        have hfar0 := hid (fun q (hq : u7.ownBlock = some q) => (HO.out.lt q hq).2)
        go_wp2_with fail
        refine HW.out.mono ?_
        rintro e w' ⟨rfl, rfl⟩
        go_wp2_with fail
        refine HS.out.mono ?_
        rintro e w4 ⟨q4, B, cb, rfl, hBs, hNw⟩
        have p4 := hB.trans (q4.mono hB.size)
        have HO4 := hid (own_below HO.out q4)
        have HBt := hid (hBs.between hNw)
        have HSp := hid hBs
        have HFr := hid (show Far u7 wr.heap.size w4.heap.size from fun q hq => .inl (hfar0.out q hq))
        have HP4 := hid p4
        have hbl := hBs.len
        clear HO HW HS hBs hNw q4 hfar0
        generalize cmpTo l (cutL at_ l) k = pre at *
        have hp4 := p4.size
        generalize wr.heap.size = lo at *
        go_wp2
        go_loopw [7, 10] (fun o j wx => ∃ n : Nat, n ≤ s.length ∧ j = .int .i64 n ∧ Hid (OwnF wx w.heap.size o (pre ++ toF (k : Int) (s.take n))) ∧ Hid (Far o lo w4.heap.size) ∧ Hid (SpnsAt wx B s) ∧ Below w.heap.size w wx ∧ w4.heap.size ≤ wx.heap.size) (fun _ j _ => s.length - (intOf j).toNat)
        case atStart => exact ⟨0, Nat.zero_le _, rfl, by unfold Hid OwnF; simpa [toF] using HO4.out, HFr, HSp, p4, Nat.le_refl _⟩
        case round =>
          clear HFr HSp HO4
          obtain ⟨n, hn, rfl, HI, HFr, HSp, hB, hB4⟩ := hrel
          have hpl : (pre ++ toF (k : Int) (s.take n)).length ≤ k * 1000 + 1000 := by rw [List.length_append, toF_len]; simp; omega
          by_cases hlt2 : n < s.length
          · have HS2 := HSp.out
            rcases HSp.out.at_ with e | ⟨b, off, rfl, hc⟩
            · rw [e] at hlt2; simp at hlt2
            obtain ⟨c0, c1, c2⟩ := hc n hlt2
            have HTk := hid (toF_take (k : Int) s n hlt2)
            clear hc
            have n0 : (0 : Int) ≤ (n : Int) := by omega
            have n1 : (n : Int) < (s.length : Int) := by omega
            generalize sAt s n = x at *
            have HX := hid (show pre ++ toF (k : Int) (s.take (n + 1)) = (pre ++ toF (k : Int) (s.take n)) ++ [⟨0, k, x.f, x.t, x.m⟩] by rw [HTk.out, List.append_assoc])
            generalize pre ++ toF (k : Int) (s.take n) = ys at *
            have hS2 := HI.out
            have hzB := hB.size
            have HKp := hid (fun (w' : World) (hb : Below wr.heap.size wr w') => (show w'.cell? ⟨b, off + n * 3, none⟩ = some (.int .i64 x.f) ∧ w'.cell? ⟨b, off + n * 3 + 1, none⟩ = some (.int .i64 x.t) ∧ w'.cell? ⟨b, off + n * 3 + 2, none⟩ = some (.int .i64 x.m) from ⟨by rw [hb.cell (cell_lt c0)]; exact c0, by rw [hb.cell (cell_lt c1)]; exact c1, by rw [hb.cell (cell_lt c2)]; exact c2⟩))
            have hneb : some b ≠ u7.ownBlock := by
              intro e
              have h1 := HFr.out b e.symm
              have h2 := HBt.out _ rfl (by intro e; rw [e] at hlt2; simp at hlt2)
              dsimp only at h2
              omega
            have HKf := hid (fun (W w' : World) (hb : Below wr.heap.size wr W) (hg : W.grownBy w' u7.ownBlock) => (show w'.cell? ⟨b, off + n * 3, none⟩ = some (.int .i64 x.f) ∧ w'.cell? ⟨b, off + n * 3 + 1, none⟩ = some (.int .i64 x.t) ∧ w'.cell? ⟨b, off + n * 3 + 2, none⟩ = some (.int .i64 x.m) from by
              obtain ⟨d0, d1, d2⟩ := HKp.out W hb
              exact ⟨by rw [hg.cell_far _ (cell_lt d0) hneb]; exact d0, by rw [hg.cell_far _ (cell_lt d1) hneb]; exact d1, by rw [hg.cell_far _ (cell_lt d2) hneb]; exact d2⟩))
            have hr : Below wr.heap.size wr wr := Below.refl _ _
            clear HI HTk HSp
            go_wp2
            go_region_held3 (fun w' => w'.cell? ⟨b, off + n * 3, none⟩ = some (.int .i64 x.f) ∧ w'.cell? ⟨b, off + n * 3 + 1, none⟩ = some (.int .i64 x.t) ∧ w'.cell? ⟨b, off + n * 3 + 2, none⟩ = some (.int .i64 x.m))
              ((first | (refine HKp.out _ ?_; first | exact hr | exact hr.drew | exact Below.drew (below_new _ _) | exact Below.alloc hr.drew (by simp) _ | exact below_new _ _ | exact Below.drew (Below.drew (below_new _ _))) | exact HKf.out _ _ (Below.drew (below_new _ _)) (by assumption)))
              (first
                | (refine step_append_lies _ (by rfl) _ _ 22 (by rfl) w.heap.size 24 i0 (.agg #[.int .i64 0, .int .i64 0, .int .i64 0, .int .i64 0, .int .i64 0]) 5 40 Try.underlying22 hinf hz0 hz1 hz2 rfl (by decide) _ ys.length (fcCells ys) (by rfl) (own_below hS2 (Below.drew (below_new _ _))) ⟨wr.heap.size, 0, none⟩ 1 1 [.int .i64 0, .int .i64 (k : Int), .int .i64 x.f, .int .i64 x.t, .int .i64 x.m] (by rfl) (by rfl) (World.news_of_block (cs := #[.int .i64 0, .int .i64 (k : Int), .int .i64 x.f, .int .i64 x.t, .int .i64 x.m]) (t := 24) (fr := (0, 0)) (heap_alloc_new wr _)) (by simp [Value.oneCell']) (by decide) (by unfold maxLen; omega) (by omega) (by first | omega | (simp; omega) | (simp <;> omega)) _ rfl ?_; intro g c6 w6 hown2 hgrow hat hgl; have p6 : Below w.heap.size w w6 := ((hB.alloc hB.size _).drew).grown hgrow (by first | omega | (simp; omega) | (simp <;> omega)) (fun q hq => (hS2.lt q hq).1)))
            have HS6 := hid ((HS2.below (Below.drew (below_new _ _))).grown HBt.out hgrow HFr.out)
            have hz6 : w4.heap.size ≤ w6.heap.size := by have := hgrow.size; (try simp at this); omega
            have HF6 := hid (show Far (.slice (some ⟨g, 0, none⟩) (ys.length + 1) c6) lo w4.heap.size from fun q hq => by
              have : g = q := by simpa [Value.ownBlock] using hq
              subst this
              rcases hat with h | h
              · exact HFr.out _ h
              · right; (try simp at h); omega)
            clear hgrow hS2 hat HFr HKp HKf HS2
            go_wp2
            go_roundw
            case rel => exact ⟨n + 1, by omega, by go_num, by unfold Hid OwnF; rw [HX.out, fcCells_snoc]; simpa using hown2, HF6, HS6, p6, hz6⟩
            case measure => simp [intOf]; omega
          · obtain rfl : n = s.length := by omega
            have HX := hid (show pre ++ toF (k : Int) (s.take s.length) = cmpTo l (cutL at_ l) (k + 1) by rw [HT.out, List.take_length])
            go_wp2
            go_roundw
            case rel => exact ⟨k + 1, by omega, by go_num, by unfold Hid; rw [← HX.out]; exact HI.out, hB⟩
            case measure => simp [intOf]; omega
      · obtain rfl : k = 100 := by omega
        have hkl := cmpTo_len l (cutL at_ l) 100
        generalize cmpTo l (cutL at_ l) 100 = ms at *
        obtain ⟨A, c, rfl, hcl⟩ := HO.out.sl
        have hat := hid (HO.out.at_ (by omega))
        by_cases hm : 60 < ms.length
        · have HX := hid ((HM.out).trans (if_pos hm))
          have hm' : (60 : Int) < (ms.length : Int) := by omega
          go_wp2
          go_ret2
          exact ⟨hB, none, 0, by rw [HX.out]; rfl, by rw [HX.out]; exact Nat.le_refl _, by rw [HX.out]; exact factsNil _⟩
        · have HX := hid ((HM.out).trans (if_neg hm))
          have hm' : (ms.length : Int) ≤ 60 := by omega
          go_wp2
          go_ret2
          exact ⟨hB, A, c, by rw [HX.out]; rfl, by rw [HX.out]; exact hcl, by rw [HX.out]; exact hat.out⟩
  · have HM := hid (show cmpL l at_ = ([], validE l) from if_neg h0)
    have h0' : (validE l != 0) = true := by simp [h0]
    clear h0 hl
    generalize validE l = x at *
    go_enter Try.func35, Try.ntmps35
    go_wp2_with fail
    refine HV.out.mono ?_
    rintro e w1 ⟨q1, rfl⟩
    go_wp2
    go_ret2
    exact ⟨q1, none, 0, by rw [HM.out]; rfl, by rw [HM.out]; exact Nat.le_refl _, by rw [HM.out]; exact factsNil _⟩
end Go.Proofs.Ytkepjoociidkcaa
