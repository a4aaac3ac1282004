/- Free and Rights of package order, and the document's own. (Written by wip/tools/gen_orrights.py.) -/
import Derived.Test.YtkepjoociidkcaaOrFree
import Derived.Test.YtkepjoociidkcaaOrT
import Derived.Test.YtkepjoociidkcaaOrW
import Derived.Test.YtkepjoociidkcaaOrRgM
set_option linter.unusedVariables false
namespace Go.Proofs.Ytkepjoociidkcaa
open Go.RowKit Go.Shelf

theorem rg_info : (Try.prog.info? 92).map (fun i => (i.zero, i.size, i.bytes)) = some (some (.agg #[.int .i64 0, .int .i64 0, .int .i64 0]), 3, 24) := by kernel_rfl
def rgCells (s : List Rgt) : List Value := s.flatMap (fun x => [Value.int .i64 x.c, Value.int .i64 x.f, Value.int .i64 x.t])
theorem rgCells_len (s : List Rgt) : (rgCells s).length = s.length * 3 := by
  induction s with
  | nil => rfl
  | cons x t ih => simp [rgCells] at ih ⊢; omega
theorem rgCells_snoc (s : List Rgt) (x : Rgt) : rgCells (s ++ [x]) = rgCells s ++ [.int .i64 x.c, .int .i64 x.f, .int .i64 x.t] := by simp [rgCells]
theorem rgCells_at (s : List Rgt) (i : Nat) (h : i < s.length) : (rgCells s)[i * 3]? = some (.int .i64 (gAt s i).c) ∧ (rgCells s)[i * 3 + 1]? = some (.int .i64 (gAt s i).f) ∧ (rgCells s)[i * 3 + 2]? = some (.int .i64 (gAt s i).t) := by
  unfold gAt
  induction s generalizing i with
  | nil => simp at h
  | cons x t ih =>
    cases i with
    | zero => simp [rgCells]
    | succ i =>
      have := ih i (by simpa using h)
      have e1 : (i + 1) * 3 = i * 3 + 1 + 1 + 1 := by omega
      rw [e1]
      simpa [rgCells] using this
theorem rgCells_set (s : List Rgt) (i : Nat) (h : i < s.length) (y : Int) : (rgCells s).set (i * 3 + 2) (.int .i64 y) = rgCells (s.set i ⟨(gAt s i).c, (gAt s i).f, y⟩) := by
  unfold gAt
  induction s generalizing i with
  | nil => simp at h
  | cons x t ih =>
    cases i with
    | zero => simp [rgCells]
    | succ i =>
      have := ih i (by simpa using h)
      have e1 : (i + 1) * 3 + 2 = i * 3 + 2 + 1 + 1 + 1 := by omega
      rw [e1]
      simpa [rgCells] using this
def OwnRg (w : World) (base : Nat) (v : Value) (n : Nat) (s : List Rgt) : Prop := s.length = n ∧ w.ownsRow base 92 3 v n (rgCells s)
theorem OwnRg.sl {w : World} {base : Nat} {v : Value} {n : Nat} {s : List Rgt} (h : OwnRg w base v n s) : ∃ A c, v = .slice A n c := by
  rcases h.2.2 with ⟨hv, hn⟩ | ⟨g, c, cur, hv, _⟩
  · exact ⟨none, 0, by rw [hv, hn]⟩
  · exact ⟨_, _, hv⟩
theorem OwnRg.place {w : World} {base : Nat} {A : Option Addr} {c n : Nat} {s : List Rgt} (h : OwnRg w base (.slice A n c) n s) (hn : 0 < n) : ∃ g, A = some ⟨g, 0, none⟩ ∧ base ≤ g ∧ g < w.heap.size := by
  rcases h.2.2 with ⟨_, h0⟩ | ⟨g, cap, cur, hv, hg, hh, _⟩
  · omega
  · simp only [Value.slice.injEq] at hv
    obtain ⟨rfl, _, rfl⟩ := hv
    exact ⟨g, rfl, hg, (Array.getElem?_eq_some_iff.1 hh).1⟩
theorem OwnRg.cells {w : World} {base g c n : Nat} {s : List Rgt} (h : OwnRg w base (.slice (some ⟨g, 0, none⟩) n c) n s) (i : Nat) (hi : i < n) :
    w.cell? ⟨g, i * 3, none⟩ = some (.int .i64 (gAt s i).c) ∧ w.cell? ⟨g, i * 3 + 1, none⟩ = some (.int .i64 (gAt s i).f) ∧ w.cell? ⟨g, i * 3 + 2, none⟩ = some (.int .i64 (gAt s i).t) := by
  obtain ⟨h1, h2⟩ := h
  obtain ⟨c0, c1, c2⟩ := rgCells_at s i (by omega)
  rw [h2.cellAt _ (by omega), h2.cellAt _ (by omega), h2.cellAt _ (by omega)]
  exact ⟨c0, c1, c2⟩
theorem OwnRg.at_ {w : World} {base : Nat} {A : Option Addr} {c n : Nat} {s : List Rgt} (h : OwnRg w base (.slice A n c) n s) (hl : n ≤ 140737488355328) : RgtsAt w A s := by
  refine ⟨by have := h.1; omega, ?_⟩
  by_cases h0 : n = 0
  · exact .inl (List.eq_nil_of_length_eq_zero (by have := h.1; omega))
  · obtain ⟨g, rfl, _, _⟩ := h.place (by omega)
    refine .inr ⟨g, 0, rfl, fun i hi => ?_⟩
    rw [Nat.zero_add]
    exact h.cells i (by have := h.1; omega)
/-- A bool and an error. -/
def FreeR (w : World) (x : Bool × Int) (en : Ending) (w' : World) : Prop := Below w.heap.size w w' ∧ en = .returned (.tuple #[.bool x.1, .int .i64 x.2])
/-- Rights and an error. -/
def RgtsR (w : World) (x : List Rgt × Int) (en : Ending) (w' : World) : Prop := Below w.heap.size w w' ∧ ∃ A c, en = .returned (.tuple #[.slice A x.1.length c, .int .i64 x.2]) ∧ RgtsAt w' A x.1
theorem rgtsNil (w : World) : RgtsAt w none [] := ⟨by simp, .inl rfl⟩
def freeV (r : List Rgt) (c d : Int) : Bool × Int := if rightsE r = 0 then (if inI c 0 99 = true then (if inI d 0 999 = true then (freeL c d r, 0) else (false, 1)) else (false, 1)) else (false, rightsE r)
def rightsV (r : List Rgt) (c : Int) : List Rgt × Int := if rightsE r = 0 then (if inI c 0 99 = true then (toR c (spTo (gFree r c) 1000), 0) else ([], 1)) else ([], rightsE r)

set_option maxHeartbeats 2000000 in
theorem Free_any (a : Option Addr) (r : List Rgt) (cap : Nat) (c d : Int) (w : World) (hr : RgtsAt w a r) : Calls Try.prog 39 #[.slice a r.length cap, .int .i64 c, .int .i64 d] w (FreeR w (freeV r c d)) := by
  have h1 := hr.len
  have HV := hid (validateRights_any a r cap w hr)
  have HF := hid (fun W (h : Below w.heap.size w W) => isFree_any a r cap c d W (hr.below h))
  have HA := hid (show freeV r c d = if rightsE r = 0 then (if inI c 0 99 = true then (if inI d 0 999 = true then (freeL c d r, 0) else (false, 1)) else (false, 1)) else (false, rightsE r) from rfl)
  clear hr
  by_cases h0 : rightsE r = 0
  · have HA := hid ((HA.out).trans (if_pos h0))
    rw [h0] at HV
    clear h0
    cases g1 : inI c 0 99 with
    | false =>
      have HX := hid (show freeV r c d = (false, 1) by rw [HA.out, g1]; rfl)
      go_enter Try.func39, Try.ntmps39
      go_wp2_with fail
      refine HV.out.mono ?_
      rintro e w1 ⟨q1, rfl⟩
      go_wp2_with fail
      refine (isChild_any _ _).mono ?_
      rintro e w' ⟨rfl, rfl⟩
      rw [g1]
      go_wp2
      go_ret2
      exact ⟨q1, by rw [HX.out]; rfl⟩
    | true =>
      cases g2 : inI d 0 999 with
      | false =>
        have HX := hid (show freeV r c d = (false, 1) by rw [HA.out, g1, g2]; rfl)
        go_enter Try.func39, Try.ntmps39
        go_wp2_with fail
        refine HV.out.mono ?_
        rintro e w1 ⟨q1, rfl⟩
        go_wp2_with fail
        refine (isChild_any _ _).mono ?_
        rintro e w' ⟨rfl, rfl⟩
        rw [g1]
        go_wp2_with fail
        refine (isDay_any _ _).mono ?_
        rintro e w' ⟨rfl, rfl⟩
        rw [g2]
        go_wp2
        go_ret2
        exact ⟨q1, by rw [HX.out]; rfl⟩
      | true =>
        have HX := hid (show freeV r c d = (freeL c d r, 0) by rw [HA.out, g1, g2]; rfl)
        go_enter Try.func39, Try.ntmps39
        go_wp2_with fail
        refine HV.out.mono ?_
        rintro e w1 ⟨q1, rfl⟩
        go_wp2_with fail
        refine (isChild_any _ _).mono ?_
        rintro e w' ⟨rfl, rfl⟩
        rw [g1]
        go_wp2_with fail
        refine (isDay_any _ _).mono ?_
        rintro e w' ⟨rfl, rfl⟩
        rw [g2]
        go_wp2_with fail
        refine (HF.out w1 q1).mono ?_
        rintro e w2 ⟨q2, rfl⟩
        go_wp2
        go_ret2
        exact ⟨q1.trans (q2.mono q1.size), by rw [HX.out]; rfl⟩
  · have HX := hid ((HA.out).trans (if_neg h0))
    have h0' : (rightsE r != 0) = true := by simp [h0]
    clear h0
    generalize rightsE r = x at *
    go_enter Try.func39, Try.ntmps39
    go_wp2_with fail
    refine HV.out.mono ?_
    rintro e w1 ⟨q1, rfl⟩
    go_wp2
    go_ret2
    exact ⟨q1, by rw [HX.out]; rfl⟩
set_option maxHeartbeats 2000000 in
theorem rFree_any (a : Option Addr) (r : List Rgt) (cap : Nat) (c d : Int) (w : World) (hr : RgtsAt w a r) : Calls Try.prog 40 #[.slice a r.length cap, .int .i64 c, .int .i64 d] w (FreeR w (freeV r c d)) := by
  have h1 := hr.len
  have HV := hid (rvalidateRights_any a r cap w hr)
  have HF := hid (fun W (h : Below w.heap.size w W) => rfree_any a r cap c d W (hr.below h))
  have HA := hid (show freeV r c d = if rightsE r = 0 then (if inI c 0 99 = true then (if inI d 0 999 = true then (freeL c d r, 0) else (false, 1)) else (false, 1)) else (false, rightsE r) from rfl)
  clear hr
  by_cases h0 : rightsE r = 0
  · have HA := hid ((HA.out).trans (if_pos h0))
    rw [h0] at HV
    clear h0
    cases g1 : inI c 0 99 with
    | false =>
      have HX := hid (show freeV r c d = (false, 1) by rw [HA.out, g1]; rfl)
      go_enter Try.func40, Try.ntmps40
      go_wp2_with fail
      refine HV.out.mono ?_
      rintro e w1 ⟨q1, rfl⟩
      go_wp2_with fail
      refine (rwithin_any _ _ _ _).mono ?_
      rintro e w' ⟨rfl, rfl⟩
      rw [g1]
      go_wp2
      go_ret2
      exact ⟨q1, by rw [HX.out]; rfl⟩
    | true =>
      cases g2 : inI d 0 999 with
      | false =>
        have HX := hid (show freeV r c d = (false, 1) by rw [HA.out, g1, g2]; rfl)
        go_enter Try.func40, Try.ntmps40
        go_wp2_with fail
        refine HV.out.mono ?_
        rintro e w1 ⟨q1, rfl⟩
        go_wp2_with fail
        refine (rwithin_any _ _ _ _).mono ?_
        rintro e w' ⟨rfl, rfl⟩
        rw [g1]
        go_wp2_with fail
        refine (rwithin_any _ _ _ _).mono ?_
        rintro e w' ⟨rfl, rfl⟩
        rw [g2]
        go_wp2
        go_ret2
        exact ⟨q1, by rw [HX.out]; rfl⟩
      | true =>
        have HX := hid (show freeV r c d = (freeL c d r, 0) by rw [HA.out, g1, g2]; rfl)
        go_enter Try.func40, Try.ntmps40
        go_wp2_with fail
        refine HV.out.mono ?_
        rintro e w1 ⟨q1, rfl⟩
        go_wp2_with fail
        refine (rwithin_any _ _ _ _).mono ?_
        rintro e w' ⟨rfl, rfl⟩
        rw [g1]
        go_wp2_with fail
        refine (rwithin_any _ _ _ _).mono ?_
        rintro e w' ⟨rfl, rfl⟩
        rw [g2]
        go_wp2_with fail
        refine (HF.out w1 q1).mono ?_
        rintro e w' ⟨rfl, rfl⟩
        go_wp2
        go_ret2
        exact ⟨q1, by rw [HX.out]; rfl⟩
  · have HX := hid ((HA.out).trans (if_neg h0))
    have h0' : (rightsE r != 0) = true := by simp [h0]
    clear h0
    generalize rightsE r = x at *
    go_enter Try.func40, Try.ntmps40
    go_wp2_with fail
    refine HV.out.mono ?_
    rintro e w1 ⟨q1, rfl⟩
    go_wp2
    go_ret2
    exact ⟨q1, by rw [HX.out]; rfl⟩

set_option maxHeartbeats 1000000 in
theorem rights1_any (a : Option Addr) (r : List Rgt) (cap p q : Nat) (c d : Int) (w : World) (hr : RgtsAt w a r) (hp : w.cell? ⟨p, 0, none⟩ = some (.slice a r.length cap)) (hq : w.cell? ⟨q, 0, none⟩ = some (.int .i64 c)) :
  Calls Try.prog 72 #[.int .i64 d, .pointer (some ⟨p, 0, none⟩), .pointer (some ⟨q, 0, none⟩)] w (fun en w' => Below w.heap.size w w' ∧ en = .returned (.tuple #[.int .i64 0, .bool (freeL c d r)])) := by
  have HC := hid (isFree_any a r cap c d w hr)
  clear hr
  generalize freeL c d r = m at *
  go_enter Try.func72, Try.ntmps72
  go_wp2_with fail
  refine HC.out.mono ?_
  rintro e w1 ⟨q1, rfl⟩
  go_wp2
  go_ret2
  exact ⟨q1, rfl⟩
theorem optG_free (r : List Rgt) (c : Int) : optG (fun d => (0, freeL c d r)) = gFree r c := by
  funext d
  unfold optG gFree
  rfl
theorem sAt_mem (s : List Spn) (i : Nat) (h : i < s.length) : sAt s i ∈ s := by
  unfold sAt; rw [List.getElem?_eq_getElem h]; simp
theorem toR_take (c : Int) (s : List Spn) (k : Nat) (h : k < s.length) : toR c (s.take (k + 1)) = toR c (s.take k) ++ [⟨c, (sAt s k).f, (sAt s k).t⟩] := by
  unfold toR sAt
  rw [List.take_succ_eq_append_getElem h, List.map_append, List.getElem?_eq_getElem h]
  rfl
theorem toR_len (c : Int) (s : List Spn) : (toR c s).length = s.length := by simp [toR]

set_option maxRecDepth 100000 in
set_option maxHeartbeats 4000000 in
theorem Rights_any (a : Option Addr) (r : List Rgt) (cap : Nat) (c : Int) (w : World) (hr : RgtsAt w a r) : Calls Try.prog 41 #[.slice a r.length cap, .int .i64 c] w (RgtsR w (rightsV r c)) := by
  obtain ⟨i0, hinf, hz0, hz1, hz2⟩ := info_parts rg_info
  have h1 := hr.len
  have hB0 : Below w.heap.size w ((w.alloc (.cells #[.slice a r.length cap] 56)).alloc (.cells #[.int .i64 c] 3)) := ((Below.refl w.heap.size w).alloc (Nat.le_refl _) _).alloc (by simp) _
  have y0 : ((w.alloc (.cells #[.slice a r.length cap] 56)).alloc (.cells #[.int .i64 c] 3)).cell? ⟨w.heap.size, 0, none⟩ = some (.slice a r.length cap) := by go_simp
  have y1 : ((w.alloc (.cells #[.slice a r.length cap] 56)).alloc (.cells #[.int .i64 c] 3)).cell? ⟨w.heap.size + 1, 0, none⟩ = some (.int .i64 c) := by go_simp
  have hs0 : w.heap.size + 1 < ((w.alloc (.cells #[.slice a r.length cap] 56)).alloc (.cells #[.int .i64 c] 3)).heap.size := by simp
  have HA := hid (show rightsV r c = if rightsE r = 0 then (if inI c 0 99 = true then (toR c (spTo (gFree r c) 1000), 0) else ([], 1)) else ([], rightsE r) from rfl)
  obtain ⟨W0, hW0⟩ : ∃ W0, ((w.alloc (.cells #[.slice a r.length cap] 56)).alloc (.cells #[.int .i64 c] 3)) = W0 := ⟨_, rfl⟩
  rw [hW0] at hB0 y0 y1 hs0
  have HW0 := hid hW0
  have HB0 := hid hB0
  have HRt := hid hr
  have HV := hid (validateRights_any a r cap W0 (hr.below hB0))
  clear hr hW0
  by_cases h0 : rightsE r = 0
  · have HA := hid ((HA.out).trans (if_pos h0))
    rw [h0] at HV
    have h60 := (rightsE_ok h0).1
    have hge0 : ∀ x ∈ r, 0 ≤ x.f := fun x hx => (rightB_iff.1 (okR_mem (rightsE_ok h0).2 x hx)).2.1
    have hlen := rights_len r c hge0 1000
    clear h0 hge0
    cases g1 : inI c 0 99 with
    | false =>
      have HX := hid (show rightsV r c = ([], 1) by rw [HA.out, g1]; rfl)
      go_enter Try.func41, Try.ntmps41
      go_wp2_with fail
      rw [HW0.out]
      refine HV.out.mono ?_
      rintro e w1 ⟨q1, rfl⟩
      rw [← q1.cell (by simp; omega)] at y0 y1
      go_wp2_with fail
      refine (isChild_any _ _).mono ?_
      rintro e w' ⟨rfl, rfl⟩
      rw [g1]
      go_wp2
      go_ret2
      exact ⟨hB0.trans (q1.mono (by omega)), none, 0, by rw [HX.out]; rfl, by rw [HX.out]; exact rgtsNil _⟩
    | true =>
      have HX := hid (show rightsV r c = (toR c (spTo (gFree r c) 1000), 0) by rw [HA.out, g1]; rfl)
      have eg := hid (show ∀ args w, (callFunc 72 args).run Try.prog w = .ok (.enter 72 args) w from enters_of Try.func72 (by kernel_rfl) rfl)
      go_enter Try.func41, Try.ntmps41
      go_wp2_with fail
      rw [HW0.out]
      refine HV.out.mono ?_
      rintro e w1 ⟨q1, rfl⟩
      have p1 := hB0.trans (q1.mono (by omega))
      rw [← q1.cell (by simp; omega)] at y0 y1
      go_wp2_with fail
      refine (isChild_any _ _).mono ?_
      rintro e w' ⟨rfl, rfl⟩
      rw [g1]
      have HSp := hid (by
        have := spansOf_any 72 #[.pointer (some ⟨w.heap.size, 0, none⟩), .pointer (some ⟨w.heap.size + 1, 0, none⟩)] (fun d => (0, freeL c d r)) w1 eg.out
          (fun wr hw k hk => rights1_any a r cap w.heap.size (w.heap.size + 1) c (k : Int) wr ((HRt.out.below p1).below hw) (by rw [hw.cell (cell_lt y0)]; exact y0) (by rw [hw.cell (cell_lt y1)]; exact y1))
        rw [optG_free] at this
        exact this)
      generalize spTo (gFree r c) 1000 = s at *
      go_wp2_with fail
      refine HSp.out.mono ?_
      rintro e w2 ⟨q2, A, cc, rfl, hA⟩
      have p2 := p1.trans (q2.mono p1.size)
      have hyl : w.heap.size + 1 < w1.heap.size := cell_lt y1
      rw [← q2.cell (by simp; omega)] at y0 y1
      have HAt := hid (fun W (h : Below w2.heap.size w2 W) => hA.below h)
      have HY1 := hid (fun W (h : Below w2.heap.size w2 W) => show W.cell? ⟨w.heap.size + 1, 0, none⟩ = some (.int .i64 c) by rw [h.cell (cell_lt y1)]; exact y1)
      have HP2 := hid p2
      have hsz := p2.size
      have hTl := toR_len c s
      clear hA HSp y0 y1 q1 q2 p1 p2 HRt eg HV hB0 HB0 HW0
      go_wp2
      go_loopw [7, 21] (fun o i wr => ∃ k : Nat, k ≤ s.length ∧ i = .int .i64 k ∧ Hid (OwnRg wr w2.heap.size o k (toR c (s.take k))) ∧ Below w2.heap.size w2 wr) (fun _ i _ => s.length - (intOf i).toNat)
      case atStart => exact ⟨0, Nat.zero_le _, rfl, ⟨rfl, rfl, .inl ⟨rfl, rfl⟩⟩, Below.refl _ _⟩
      case round =>
        obtain ⟨k, hk, rfl, HO, hB⟩ := hrel
        by_cases hlt : k < s.length
        · rcases (HAt.out wr hB).at_ with e | ⟨b, off, rfl, hc⟩
          · rw [e] at hlt; simp at hlt
          obtain ⟨c0, c1, c2⟩ := hc k hlt
          have hbl : b < wr.heap.size := cell_lt c0
          have hy1 := HY1.out wr hB
          have hyl := cell_lt hy1
          have HT := hid (toR_take c s k hlt)
          clear hc
          generalize sAt s k = x at *
          generalize toR c (s.take k) = pre at *
          have HO2 := HO.out
          clear HO
          have hS2 := HO2.2
          have HON := hid HO2.1
          have hzB := hB.size
          go_wp2_with (at_builtin; refine wpList_append_own _ rfl _ _ 56 rfl w2.heap.size 92 i0 (.agg #[.int .i64 0, .int .i64 0, .int .i64 0]) 3 24 Try.underlying56 hinf hz0 hz1 hz2 rfl (by decide) _ _ _ rfl ((hS2.alloc _).alloc _) ⟨wr.heap.size + 1, 0, none⟩ 1 1 [.int .i64 c, .int .i64 x.f, .int .i64 x.t] rfl rfl ?c1 ?c2 ?c3 ?c4 ?c5 ?_)
          try case c1 =>
            have := World.news_of_block (cs := #[.int .i64 c, .int .i64 x.f, .int .i64 x.t]) (t := 92) (fr := (0, 0)) (heap_alloc_new (wr.alloc (.cells #[.int .i64 x.f, .int .i64 x.t, .int .i64 x.m] 66)) (.cells #[.int .i64 c, .int .i64 x.f, .int .i64 x.t] 92))
            simpa using this
          case c2 => simp [Value.oneCell']
          case c3 => unfold maxLen; omega
          case c4 => omega
          case c5 => first | omega | (simp; omega) | (simp <;> omega)
          intro v' w6 hown2 hgrow _
          have hnb : ∀ q, some q = u7.ownBlock → w2.heap.size ≤ q ∧ q < wr.heap.size := fun q hq => hS2.lt q hq.symm
          have p6 := ((hB.alloc hB.size _).alloc (by simp; omega) _).grown hgrow (by simp; omega) (fun q hq => (hnb q hq.symm).1)
          clear hgrow hS2 hnb
          go_wp2
          go_roundw
          case rel => exact ⟨k + 1, by omega, by go_num, ⟨by rw [HT.out]; simp [HON.out], by rw [HT.out, rgCells_snoc]; simpa using hown2⟩, p6⟩
          case measure => simp [intOf]; omega
        · obtain rfl : k = s.length := by omega
          have HO2 := HO.out
          rw [List.take_length] at HO2
          obtain ⟨A2, c2, rfl⟩ := HO2.sl
          have hat := hid (HO2.at_ (by omega))
          have HTl := hid hTl
          clear hTl HO
          go_wp2
          go_ret2
          exact ⟨HP2.out.trans (hB.mono hsz), A2, c2, by rw [HX.out]; dsimp only; rw [HTl.out]; rfl, by rw [HX.out]; exact hat.out⟩
  · have HX := hid ((HA.out).trans (if_neg h0))
    have h0' : (rightsE r != 0) = true := by simp [h0]
    clear h0
    generalize rightsE r = x at *
    go_enter Try.func41, Try.ntmps41
    go_wp2_with fail
    rw [HW0.out]
    refine HV.out.mono ?_
    rintro e w1 ⟨q1, rfl⟩
    go_wp2
    go_ret2
    exact ⟨hB0.trans (q1.mono (by omega)), none, 0, by rw [HX.out]; rfl, by rw [HX.out]; exact rgtsNil _⟩
end Go.Proofs.Ytkepjoociidkcaa
