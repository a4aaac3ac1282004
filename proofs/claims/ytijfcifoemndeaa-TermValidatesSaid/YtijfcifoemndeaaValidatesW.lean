/- The law TermValidates: its walk. -/
import Derived.Test.YtijfcifoemndeaaLong
import Derived.Test.YtijfcifoemndeaaKnown
import Derived.Test.YtijfcifoemndeaaOpens
import Derived.Test.YtijfcifoemndeaaRefOpen
import Derived.Test.YtijfcifoemndeaaRSame
import Derived.Test.YtijfcifoemndeaaCopy
set_option linter.unusedVariables false
namespace Go.Proofs.Ytijfcifoemndeaa
open Go.RowKit

/-- What the calls of the last line keep. -/
def ValS (wB : World) (bT bC bO : Nat) (L : Int) (r c r' c' : Value) (m f k : Int) (w' : World) : Prop :=
  w'.cell? ⟨bT, 0, none⟩ = some (.int .i64 L) ∧ w'.cell? ⟨bT, 1, none⟩ = some r ∧ w'.cell? ⟨bT, 2, none⟩ = some c ∧
  w'.cell? ⟨bC, 0, none⟩ = some (.int .i64 m) ∧ w'.cell? ⟨bC, 1, none⟩ = some (.int .i64 f) ∧ w'.cell? ⟨bC, 2, none⟩ = some (.int .i64 k) ∧
  w'.cell? ⟨bO, 0, none⟩ = some (.int .i64 L) ∧ w'.cell? ⟨bO, 1, none⟩ = some r' ∧ w'.cell? ⟨bO, 2, none⟩ = some c' ∧ Below wB.heap.size wB w'
section
variable {wB : World} {bT bC bO : Nat} {L : Int} {r c r' c' : Value} {m f k : Int}
theorem ValS.below {w' : World} (h : ValS wB bT bC bO L r c r' c' m f k w') : Below wB.heap.size wB w' := h.2.2.2.2.2.2.2.2.2
theorem ValS.drew {w' : World} (h : ValS wB bT bC bO L r c r' c' m f k w') : ValS wB bT bC bO L r c r' c' m f k w'.drew := by
  obtain ⟨a0, a1, a2, b0, b1, b2, c0, c1, c2, p⟩ := h
  exact ⟨a0, a1, a2, b0, b1, b2, c0, c1, c2, p.drew⟩
theorem ValS.keep {w' w2 : World} (h : ValS wB bT bC bO L r c r' c' m f k w') (hb : Below w'.heap.size w' w2) : ValS wB bT bC bO L r c r' c' m f k w2 := by
  obtain ⟨a0, a1, a2, b0, b1, b2, c0, c1, c2, p⟩ := h
  refine ⟨?_, ?_, ?_, ?_, ?_, ?_, ?_, ?_, ?_, p.trans (hb.mono p.size)⟩
  · rw [hb.cell (cell_lt a0)]; exact a0
  · rw [hb.cell (cell_lt a1)]; exact a1
  · rw [hb.cell (cell_lt a2)]; exact a2
  · rw [hb.cell (cell_lt b0)]; exact b0
  · rw [hb.cell (cell_lt b1)]; exact b1
  · rw [hb.cell (cell_lt b2)]; exact b2
  · rw [hb.cell (cell_lt c0)]; exact c0
  · rw [hb.cell (cell_lt c1)]; exact c1
  · rw [hb.cell (cell_lt c2)]; exact c2
end

theorem TermAt.of_own {w : World} {L : Int} {b1 b2 : Nat} {A1 A2 : Option Addr} {rs cs : List Int} {c1 c2 : Nat} (h1 : Own w b1 (.slice A1 rs.length c1) rs) (h2 : Own w b2 (.slice A2 cs.length c2) cs) {w0 : World} {ra ca : Option Addr} (h : TermAt w0 L ra rs ca cs) : TermAt w L A1 rs A2 cs := by
  obtain ⟨a, c, e, i⟩ := h1.ints h.rest.len h.rest.bd
  obtain ⟨a', c', e', i'⟩ := h2.ints h.closed.len h.closed.bd
  cases e
  cases e'
  exact ⟨i, i', h.lo, h.hi⟩

set_option maxRecDepth 100000 in
set_option maxHeartbeats 8000000 in
theorem validates_walk (L : Int) (ra : Option Addr) (rs : List Int) (rc : Nat) (ca : Option Addr) (cs : List Int) (cc : Nat) (m f k d : Int) (w : World)
  (h1 : rs.length ≤ 9223372036854775807) (h2 : cs.length ≤ 9223372036854775807) (hT : rs.length ≤ 140737488355328 → cs.length ≤ 140737488355328 → TermAt w L ra rs ca cs) :
  Calls Try.prog 3 #[.agg #[.int .i64 L, .slice ra rs.length rc, .slice ca cs.length cc], .agg #[.int .i64 m, .int .i64 f, .int .i64 k], .int .i64 d] w (BoolR w true) := by
  have hB := ((Below.refl w.heap.size w).alloc (Nat.le_refl _) (.cells #[.int .i64 L, .slice ra rs.length rc, .slice ca cs.length cc] 24)).alloc (by simp) (.cells #[.int .i64 m, .int .i64 f, .int .i64 k] 26)
  cases hl : longB rs cs with
  | true =>
    go_enter Try.func3, Try.ntmps3
    go_wp2_with fail
    refine (long_any _ _ _ _ _ _ _ _ h1 h2).mono ?_
    rintro e w1 ⟨q1, rfl⟩
    have p1 := hB.trans (q1.mono (by simp; omega))
    rw [hl]
    go_wp2_with fail
    refine (known_any _).mono ?_
    rintro e w2 ⟨q2, rfl⟩
    go_wp2
    go_ret
    exact ⟨p1.trans (q2.mono p1.size), rfl⟩
  | false =>
    have hlen := longB_false hl
    have hT' := hT (by omega) (by omega)
    clear hT
    go_enter Try.func3, Try.ntmps3
    go_wp2_with fail
    refine (long_any _ _ _ _ _ _ _ _ h1 h2).mono ?_
    rintro e w1 ⟨q1, rfl⟩
    have p1 := hB.trans (q1.mono (by simp; omega))
    obtain ⟨d1, d2⟩ := bcell q1
    have hs1 := q1.size
    simp only [World.size_alloc] at d1 d2 hs1
    have a0 : w1.cell? ⟨w.heap.size, 0, none⟩ = some (.int .i64 L) := by rw [d1 _ _ (by omega)]; go_simp
    have a1 : w1.cell? ⟨w.heap.size, 1, none⟩ = some (.slice ra rs.length rc) := by rw [d1 _ _ (by omega)]; go_simp
    have a2 : w1.cell? ⟨w.heap.size, 2, none⟩ = some (.slice ca cs.length cc) := by rw [d1 _ _ (by omega)]; go_simp
    have b0 : w1.cell? ⟨w.heap.size + 1, 0, none⟩ = some (.int .i64 m) := by rw [d1 _ _ (by omega)]; go_simp
    have b1 : w1.cell? ⟨w.heap.size + 1, 1, none⟩ = some (.int .i64 f) := by rw [d1 _ _ (by omega)]; go_simp
    have b2 : w1.cell? ⟨w.heap.size + 1, 2, none⟩ = some (.int .i64 k) := by rw [d1 _ _ (by omega)]; go_simp
    clear d1 d2
    rw [hl]
    go_wp2_with fail
    refine (copy_any _ _ _ _ _ _ _ _ (hT'.below p1) (by omega) (by omega)).mono ?_
    rintro e w2 ⟨q2, v1, v2, rfl, o1, o2⟩
    have p2 := p1.trans (q2.mono p1.size)
    have hs2 := q2.size
    rw [← q2.cell (by simp; omega)] at a0 a1 a2 b0 b1 b2
    obtain ⟨A1, c1, rfl⟩ := o1.form
    obtain ⟨A2, c2, rfl⟩ := o2.form
    have hO := TermAt.of_own o1 o2 hT'
    clear o1 o2
    go_wp2_with fail
    obtain ⟨w3, hw3⟩ : ∃ w3, w2.alloc (.cells #[.int .i64 L, .slice A1 rs.length c1, .slice A2 cs.length c2] 24) = w3 := ⟨_, rfl⟩
    have q3 : Below w2.heap.size w2 w3 := by rw [← hw3]; exact (Below.refl _ _).alloc (Nat.le_refl _) _
    have hs3 : w3.heap.size = w2.heap.size + 1 := by rw [← hw3]; simp
    have e0 : w3.cell? ⟨w2.heap.size, 0, none⟩ = some (.int .i64 L) := by rw [← hw3]; clear hw3; go_simp
    have e1 : w3.cell? ⟨w2.heap.size, 1, none⟩ = some (.slice A1 rs.length c1) := by rw [← hw3]; clear hw3; go_simp
    have e2 : w3.cell? ⟨w2.heap.size, 2, none⟩ = some (.slice A2 cs.length c2) := by rw [← hw3]; clear hw3; go_simp
    rw [← q3.cell (by simp; omega)] at a0 a1 a2 b0 b1 b2
    rw [hw3]
    clear hw3
    have p3 := p2.trans (q3.mono p2.size)
    have hO3 := hO.below q3
    refine (isOpen_any _ _ _ _ _ _ _ _ _ hO3).mono ?_
    rintro e w4 ⟨q4, rfl⟩
    have p4 := p3.trans (q4.mono p3.size)
    have hs4 := q4.size
    rw [← q4.cell (by simp; omega)] at a0 a1 a2 b0 b1 b2 e0 e1 e2
    have hO4 := hO3.below q4
    rw [openL_eq]
    go_wp2_with fail
    refine (risOpen_any _ _ _ _ _ _ _ _ _ (hT'.below p4)).mono ?_
    rintro e w5 ⟨q5, rfl⟩
    have p5 := p4.trans (q5.mono p4.size)
    have hs5 := q5.size
    rw [← q5.cell (by simp; omega)] at a0 a1 a2 b0 b1 b2 e0 e1 e2
    have hO5 := hO4.below q5
    have hT5 := hT'.below p5
    clear q1 q2 q3 q4 q5 p1 p2 p3 p4 hO hO3 hO4
    generalize (ropenL L rs cs d).1 = od at *
    generalize (ropenL L rs cs d).2 = oe at *
    have HV1 := hid (fun (w' : World) (hb : Below w5.heap.size w5 w') => validate_any L A1 rs c1 A2 cs c2 w' (hO5.below hb))
    have HV2 := hid (fun (w' : World) (hb : Below w5.heap.size w5 w') => rvalidate_any L ra rs rc ca cs cc w' (hT5.below hb))
    have HC1 := hid (fun (w' : World) => validateCycle_any m f k w')
    have HC2 := hid (fun (w' : World) => rvalidateCycle_any m f k w')
    have HSm := hid (fun (w' : World) (hb : Below w5.heap.size w5 w') => rsame_any L A1 rs c1 A2 cs c2 L ra rs rc ca cs cc w' (hO5.below hb) (hT5.below hb))
    rw [show sameT L rs cs L rs cs = true by simp [sameT, sameB]] at HSm
    have HKn := hid (fun (w' : World) => known_any w')
    have S0 := hid (show ValS w5 w.heap.size (w.heap.size + 1) w2.heap.size L (.slice ra rs.length rc) (.slice ca cs.length cc) (.slice A1 rs.length c1) (.slice A2 cs.length c2) m f k w5 from ⟨a0, a1, a2, b0, b1, b2, e0, e1, e2, Below.refl _ _⟩)
    generalize validT L rs cs = vt at *
    generalize validC m f k = vc at *
    have hvt : (vt == vt) = true := by simp
    have hvc : (vc == vc) = true := by simp
    have hod : (od == od) = true := by simp
    have hoe : (oe == oe) = true := by simp
    go_wp2_with fail
    go_region_held3 (fun w' => w'.cell? ⟨w.heap.size, 0, none⟩ = some (.int .i64 L) ∧ w'.cell? ⟨w.heap.size, 1, none⟩ = some (.slice ra rs.length rc) ∧ w'.cell? ⟨w.heap.size, 2, none⟩ = some (.slice ca cs.length cc) ∧ w'.cell? ⟨w.heap.size + 1, 0, none⟩ = some (.int .i64 m) ∧ w'.cell? ⟨w.heap.size + 1, 1, none⟩ = some (.int .i64 f) ∧ w'.cell? ⟨w.heap.size + 1, 2, none⟩ = some (.int .i64 k) ∧ w'.cell? ⟨w2.heap.size, 0, none⟩ = some (.int .i64 L) ∧ w'.cell? ⟨w2.heap.size, 1, none⟩ = some (.slice A1 rs.length c1) ∧ w'.cell? ⟨w2.heap.size, 2, none⟩ = some (.slice A2 cs.length c2) ∧ Below w5.heap.size w5 w') (first | exact S0.out.drew | exact S0.out | exact ValS.keep (by assumption) (by assumption))
      (first | (go_at_call 20; refine (HV1.out _ ?_).mono ?_; (exact ValS.below (by assumption)); rintro en x1 ⟨y1, rfl⟩) | (go_at_call 21; refine (HV2.out _ ?_).mono ?_; (exact ValS.below (by assumption)); rintro en x2 ⟨y2, rfl⟩) | (go_at_call 22; refine (HC1.out _).mono ?_; rintro en x3 ⟨y3, rfl⟩) | (go_at_call 23; refine (HC2.out _).mono ?_; rintro en x4 ⟨y4, rfl⟩) | (go_at_call 24; refine (HSm.out _ ?_).mono ?_; (exact ValS.below (by assumption)); rintro en x5 ⟨y5, rfl⟩) | (go_at_call 16; refine (HKn.out _).mono ?_; rintro en x6 ⟨y6, rfl⟩))
    have hHeld : ValS w5 w.heap.size (w.heap.size + 1) w2.heap.size L (.slice ra rs.length rc) (.slice ca cs.length cc) (.slice A1 rs.length c1) (.slice A2 cs.length c2) m f k x6 := by assumption
    have hBl := hHeld.below
    clear hHeld S0 HV1 HV2 HC1 HC2 HSm HKn y1 y2 y3 y4 y5 y6
    go_wp2
    go_ret
    exact ⟨p5.trans (hBl.mono p5.size), rfl⟩

end Go.Proofs.Ytijfcifoemndeaa
