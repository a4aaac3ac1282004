/- Spans and Changed of package order, and the document's own. -/
import Derived.Test.YtkepjoociidkcaaOrI
import Derived.Test.YtkepjoociidkcaaOrT
import Derived.Test.YtkepjoociidkcaaOrU
set_option linter.unusedVariables false
namespace Go.Proofs.Ytkepjoociidkcaa
open Go.RowKit Go.Shelf

def PairR (w : World) (m : Int) (b : Bool) (en : Ending) (w' : World) : Prop := Below w.heap.size w w' ∧ en = .returned (.tuple #[.int .i64 m, .bool b])
set_option maxHeartbeats 1000000 in
theorem spans1_any (a : Option Addr) (r : List Kn) (cap p : Nat) (d : Int) (w : World) (hr : KnsAt w a r) (hp : w.cell? ⟨p, 0, none⟩ = some (.slice a r.length cap)) :
  Calls Try.prog 79 #[.int .i64 d, .pointer (some ⟨p, 0, none⟩)] w (PairR w (mealR r d) (mealR r d != 0)) := by
  have HC := hid (meal_any a r cap d w hr)
  clear hr
  generalize mealR r d = m at *
  go_enter Try.func79, Try.ntmps79
  go_wp2_with fail
  refine HC.out.mono ?_
  rintro e w1 ⟨q1, rfl⟩
  go_wp2
  go_ret2
  exact ⟨q1, rfl⟩
set_option maxHeartbeats 1000000 in
theorem changed1_any (a b : Option Addr) (r s : List Kn) (ca cb p q : Nat) (d : Int) (w : World) (hr : KnsAt w a r) (hs : KnsAt w b s) (hp : w.cell? ⟨p, 0, none⟩ = some (.slice a r.length ca)) (hq : w.cell? ⟨q, 0, none⟩ = some (.slice b s.length cb)) :
  Calls Try.prog 64 #[.int .i64 d, .pointer (some ⟨p, 0, none⟩), .pointer (some ⟨q, 0, none⟩)] w (PairR w (mealR r d) (mealR r d != mealR s d)) := by
  have HC := hid (meal_any a r ca d w hr)
  have HC2 := hid (fun w1 (h : Below w.heap.size w w1) => meal_any b s cb d w1 (hs.below h))
  have HQ := hid (fun w1 (h : Below w.heap.size w w1) => show w1.cell? ⟨q, 0, none⟩ = some (.slice b s.length cb) by rw [h.cell (cell_lt hq)]; exact hq)
  clear hr hs hq
  generalize mealR r d = m at *
  generalize mealR s d = m2 at *
  go_enter Try.func64, Try.ntmps64
  go_wp2_with fail
  refine HC.out.mono ?_
  rintro e w1 ⟨q1, rfl⟩
  have hq1 := HQ.out w1 q1
  have HC3 := hid (HC2.out w1 q1)
  go_wp2_with fail
  refine HC3.out.mono ?_
  rintro e w2 ⟨q2, rfl⟩
  go_wp2
  go_ret2
  exact ⟨q1.trans (q2.mono q1.size), rfl⟩

def gS (r : List Kn) (d : Int) : Int × Bool := (mealR r d, mealR r d != 0)
def gC (r s : List Kn) (d : Int) : Int × Bool := (mealR r d, mealR r d != mealR s d)
set_option maxHeartbeats 1000000 in
theorem rspans_mo (a : Option Addr) (r : List Kn) (cap : Nat) (w : World) (hr : KnsAt w a r) : Calls Try.prog 61 #[.slice a r.length cap] w (SpnsO w (spTo (optG (gS r)) 1000)) := by
  have hB : Below w.heap.size w (w.alloc (.cells #[.slice a r.length cap] 74)) := (Below.refl w.heap.size w).alloc (Nat.le_refl _) _
  have y0 : (w.alloc (.cells #[.slice a r.length cap] 74)).cell? ⟨w.heap.size, 0, none⟩ = some (.slice a r.length cap) := by go_simp
  have eg : ∀ args w, (callFunc 79 args).run Try.prog w = .ok (.enter 79 args) w := enters_of Try.func79 (by kernel_rfl) rfl
  have HS := hid (spansOf_own 79 #[.pointer (some ⟨w.heap.size, 0, none⟩)] (gS r) (w.alloc (.cells #[.slice a r.length cap] 74)) eg
    (fun wr hw k hk => spans1_any a r cap w.heap.size (k : Int) wr ((hr.below hB).below hw) (by rw [hw.cell (by simp)]; exact y0)))
  have HB := hid hB
  clear hr hB y0 eg
  go_enter Try.func61, Try.ntmps61
  go_wp2_with fail
  refine HS.out.mono ?_
  rintro e w1 ⟨q1, A, c, rfl, hA, hN⟩
  go_wp2
  go_ret
  exact ⟨HB.out.trans (q1.mono (by simp)), A, c, rfl, hA, fun ad h => by have := hN ad h; simp at this; omega⟩
theorem rspans_m (a : Option Addr) (r : List Kn) (cap : Nat) (w : World) (hr : KnsAt w a r) : Calls Try.prog 61 #[.slice a r.length cap] w (SpnsR w (spTo (optG (gS r)) 1000)) :=
  (rspans_mo a r cap w hr).mono fun _ _ h => h.r

/-- Spans and an error. -/
def SpansR (w : World) (x : List Spn × Int) (en : Ending) (w' : World) : Prop := Below w.heap.size w w' ∧ ∃ A c, en = .returned (.tuple #[.slice A x.1.length c, .int .i64 x.2]) ∧ SpnsAt w' A x.1
def spansL (l : List Fct) (at_ c : Int) : List Spn × Int := if chkE l (inI c 0 99) = 0 then (spTo (optG (gS (recTo l c (cutL at_ l)))) 1000, 0) else ([], chkE l (inI c 0 99))
def changedL (l : List Fct) (be at_ c : Int) : List Spn × Int := if chkE l (inI c 0 99) = 0 then (spTo (optG (gC (recTo l c (cutL at_ l)) (recTo l c (cutL be l)))) 1000, 0) else ([], chkE l (inI c 0 99))
theorem chkE_ok {l : List Fct} {b : Bool} (h : chkE l b = 0) : validE l = 0 ∧ b = true := by
  unfold chkE at h
  split at h
  · cases b
    · simp at h
    · exact ⟨by assumption, rfl⟩
  · omega
theorem spnsNil (w : World) : SpnsAt w none [] := ⟨by simp, .inl rfl⟩

set_option maxHeartbeats 2000000 in
theorem Spans_any (a : Option Addr) (l : List Fct) (cap : Nat) (at_ c : Int) (w : World) (hl : FactsAt w a l) (hcap : l.length ≤ cap) :
  Calls Try.prog 25 #[.slice a l.length cap, .int .i64 at_, .int .i64 c] w (SpansR w (spansL l at_ c)) := by
  have hlen := hl.len
  have HV := hid (check_any a l cap (inI c 0 99) w hl)
  by_cases h0 : chkE l (inI c 0 99) = 0
  · have HM := hid (show spansL l at_ c = (spTo (optG (gS (recTo l c (cutL at_ l)))) 1000, 0) from if_pos h0)
    obtain ⟨h1, h2⟩ := chkE_ok h0
    obtain ⟨h3, h4, h5⟩ := validE_ok h1
    rw [h0] at HV
    have hcl := cutL_le at_ l
    have HL := hid hl
    have HSo := hid h5
    clear h0 h1 h2 h4 h5 hl
    go_enter Try.func25, Try.ntmps25
    go_wp2_with fail
    refine (isChild_any _ _).mono ?_
    rintro e w' ⟨rfl, rfl⟩
    go_wp2_with fail
    refine HV.out.mono ?_
    rintro e w1 ⟨q1, rfl⟩
    have HW := hid (written_any a l cap at_ w1 (HL.out.below q1) HSo.out hcap)
    go_wp2_with fail
    refine HW.out.mono ?_
    rintro e w2 ⟨q2, rfl⟩
    have p2 := q1.trans (q2.mono q1.size)
    have HR := hid (recordOf_any a l (cutL at_ l) (cutL at_ l) c w2 (HL.out.below p2) hcl (by omega))
    go_wp2_with fail
    refine HR.out.mono ?_
    rintro e w3 ⟨q3, A, cc, rfl, hA⟩
    have p3 := p2.trans (q3.mono p2.size)
    have HS := hid (rspans_m A _ cc w3 hA)
    go_wp2_with fail
    refine HS.out.mono ?_
    rintro e w4 ⟨q4, B, cb, rfl, hB⟩
    go_wp2
    go_ret2
    exact ⟨p3.trans (q4.mono p3.size), B, cb, by rw [HM.out]; rfl, by rw [HM.out]; exact hB⟩
  · have HM := hid (show spansL l at_ c = ([], chkE l (inI c 0 99)) from if_neg h0)
    have h0' : (chkE l (inI c 0 99) != 0) = true := by simp [h0]
    clear h0 hl
    generalize chkE l (inI c 0 99) = x at *
    go_enter Try.func25, Try.ntmps25
    go_wp2_with fail
    refine (isChild_any _ _).mono ?_
    rintro e w' ⟨rfl, rfl⟩
    go_wp2_with fail
    refine HV.out.mono ?_
    rintro e w1 ⟨q1, rfl⟩
    go_wp2
    go_ret2
    exact ⟨q1, none, 0, by rw [HM.out]; rfl, by rw [HM.out]; exact spnsNil _⟩

set_option maxRecDepth 100000 in
set_option maxHeartbeats 4000000 in
theorem Changed_any (a : Option Addr) (l : List Fct) (cap : Nat) (be at_ c : Int) (w : World) (hl : FactsAt w a l) (hcap : l.length ≤ cap) :
  Calls Try.prog 28 #[.slice a l.length cap, .int .i64 be, .int .i64 at_, .int .i64 c] w (SpansR w (changedL l be at_ c)) := by
  have hlen := hl.len
  have HV := hid (check_any a l cap (inI c 0 99) w hl)
  by_cases h0 : chkE l (inI c 0 99) = 0
  · have HM := hid (show changedL l be at_ c = (spTo (optG (gC (recTo l c (cutL at_ l)) (recTo l c (cutL be l)))) 1000, 0) from if_pos h0)
    obtain ⟨h1, h2⟩ := chkE_ok h0
    obtain ⟨h3, h4, h5⟩ := validE_ok h1
    rw [h0] at HV
    have hcl := cutL_le at_ l
    have hcb := cutL_le be l
    have HL := hid hl
    have HSo := hid h5
    have eg := hid (show ∀ args w, (callFunc 64 args).run Try.prog w = .ok (.enter 64 args) w from enters_of Try.func64 (by kernel_rfl) rfl)
    clear h0 h1 h2 h4 h5 hl
    go_enter Try.func28, Try.ntmps28
    go_wp2_with fail
    refine (isChild_any _ _).mono ?_
    rintro e w' ⟨rfl, rfl⟩
    go_wp2_with fail
    refine HV.out.mono ?_
    rintro e w1 ⟨q1, rfl⟩
    have HW := hid (written_any a l cap be w1 (HL.out.below q1) HSo.out hcap)
    go_wp2_with fail
    refine HW.out.mono ?_
    rintro e w2 ⟨q2, rfl⟩
    have p2 := q1.trans (q2.mono q1.size)
    have HR := hid (recordOf_any a l (cutL be l) (cutL be l) c w2 (HL.out.below p2) hcb (by omega))
    go_wp2_with fail
    refine HR.out.mono ?_
    rintro e w3 ⟨q3, A, cc, rfl, hA⟩
    have p3 := p2.trans (q3.mono p2.size)
    have HW2 := hid (written_any a l cap at_ w3 (HL.out.below p3) HSo.out hcap)
    go_wp2_with fail
    refine HW2.out.mono ?_
    rintro e w4 ⟨q4, rfl⟩
    have p4 := p3.trans (q4.mono p3.size)
    have HR2 := hid (recordOf_any a l (cutL at_ l) (cutL at_ l) c w4 (HL.out.below p4) hcl (by omega))
    go_wp2_with fail
    refine HR2.out.mono ?_
    rintro e w5 ⟨q5, A2, cc2, rfl, hA2⟩
    have p5 := p4.trans (q5.mono p4.size)
    have hA3 := (hA.below q4).below q5
    generalize recTo l c (cutL at_ l) = now at *
    generalize recTo l c (cutL be l) = then_ at *
    have hB6 : Below w5.heap.size w5 ((w5.alloc (.cells #[.slice A then_.length cc] 74)).alloc (.cells #[.slice A2 now.length cc2] 74)) := ((Below.refl _ _).alloc (Nat.le_refl _) _).alloc (by simp) _
    have y0 : ((w5.alloc (.cells #[.slice A then_.length cc] 74)).alloc (.cells #[.slice A2 now.length cc2] 74)).cell? ⟨w5.heap.size, 0, none⟩ = some (.slice A then_.length cc) := by go_simp
    have y1 : ((w5.alloc (.cells #[.slice A then_.length cc] 74)).alloc (.cells #[.slice A2 now.length cc2] 74)).cell? ⟨w5.heap.size + 1, 0, none⟩ = some (.slice A2 now.length cc2) := by go_simp
    have HS := hid (spansOf_any 64 #[.pointer (some ⟨w5.heap.size + 1, 0, none⟩), .pointer (some ⟨w5.heap.size, 0, none⟩)] (gC now then_) _ eg.out
      (fun wr hw k hk => changed1_any A2 A now then_ cc2 cc (w5.heap.size + 1) w5.heap.size (k : Int) wr ((hA2.below hB6).below hw) ((hA3.below hB6).below hw) (by rw [hw.cell (by simp <;> omega)]; exact y1) (by rw [hw.cell (by simp <;> omega)]; exact y0)))
    have HB6 := hid hB6
    clear y0 y1 hB6 hA hA2 hA3 eg HL HSo
    go_wp2_with fail
    refine HS.out.mono ?_
    rintro e w7 ⟨q7, B, cb, rfl, hB⟩
    go_wp2
    go_ret2
    exact ⟨(p5.trans (HB6.out.mono p5.size)).trans (q7.mono (by simp; have := p5.size; omega)), B, cb, by rw [HM.out]; rfl, by rw [HM.out]; exact hB⟩
  · have HM := hid (show changedL l be at_ c = ([], chkE l (inI c 0 99)) from if_neg h0)
    have h0' : (chkE l (inI c 0 99) != 0) = true := by simp [h0]
    clear h0 hl
    generalize chkE l (inI c 0 99) = x at *
    go_enter Try.func28, Try.ntmps28
    go_wp2_with fail
    refine (isChild_any _ _).mono ?_
    rintro e w' ⟨rfl, rfl⟩
    go_wp2_with fail
    refine HV.out.mono ?_
    rintro e w1 ⟨q1, rfl⟩
    go_wp2
    go_ret2
    exact ⟨q1, none, 0, by rw [HM.out]; rfl, by rw [HM.out]; exact spnsNil _⟩
end Go.Proofs.Ytkepjoociidkcaa
