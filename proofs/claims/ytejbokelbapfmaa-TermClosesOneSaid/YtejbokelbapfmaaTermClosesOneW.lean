/- The law TermClosesOne: its walk. -/
import Derived.Test.YtejbokelbapfmaaClose
import Derived.Test.YtejbokelbapfmaaLong
import Derived.Test.YtejbokelbapfmaaKnown
import Derived.Test.YtejbokelbapfmaaMenu
import Derived.Deep.QuietTactic
import Derived.BigQuiet
set_option linter.unusedVariables false
namespace Go.Proofs.Ytejbokelbapfmaa
open Go.RowKit

/-- What calls keep of a term, a cycle and two numbers that were given. -/
def OneS (w : World) (L : Int) (r c : Value) (m f k x y : Int) (w' : World) : Prop :=
  w'.cell? ⟨w.heap.size, 0, none⟩ = some (.int .i64 L) ∧ w'.cell? ⟨w.heap.size, 1, none⟩ = some r ∧ w'.cell? ⟨w.heap.size, 2, none⟩ = some c ∧
  w'.cell? ⟨w.heap.size + 1, 0, none⟩ = some (.int .i64 m) ∧ w'.cell? ⟨w.heap.size + 1, 1, none⟩ = some (.int .i64 f) ∧ w'.cell? ⟨w.heap.size + 1, 2, none⟩ = some (.int .i64 k) ∧
  w'.cell? ⟨w.heap.size + 1 + 1, 0, none⟩ = some (.int .i64 x) ∧ w'.cell? ⟨w.heap.size + 1 + 1, 1, none⟩ = some (.int .i64 y) ∧ Below w.heap.size w w'
section
variable {w : World} {L : Int} {r c : Value} {m f k x y : Int}
theorem OneS.below {w' : World} (h : OneS w L r c m f k x y w') : Below w.heap.size w w' := h.2.2.2.2.2.2.2.2
theorem OneS.size {w' : World} (h : OneS w L r c m f k x y w') : w.heap.size + 1 + 1 < w'.heap.size := cell_lt h.2.2.2.2.2.2.1
theorem OneS.keep {w' w2 : World} (h : OneS w L r c m f k x y w') (hb : Below w'.heap.size w' w2) : OneS w L r c m f k x y w2 := by
  obtain ⟨a0, a1, a2, a3, a4, a5, a6, a7, p⟩ := h
  refine ⟨?_, ?_, ?_, ?_, ?_, ?_, ?_, ?_, p.trans (hb.mono p.size)⟩
  · rw [hb.cell (cell_lt a0)]; exact a0
  · rw [hb.cell (cell_lt a1)]; exact a1
  · rw [hb.cell (cell_lt a2)]; exact a2
  · rw [hb.cell (cell_lt a3)]; exact a3
  · rw [hb.cell (cell_lt a4)]; exact a4
  · rw [hb.cell (cell_lt a5)]; exact a5
  · rw [hb.cell (cell_lt a6)]; exact a6
  · rw [hb.cell (cell_lt a7)]; exact a7
theorem OneS.made (w : World) (L : Int) (r c : Value) (m f k x y : Int) : OneS w L r c m f k x y (((w.alloc (.cells #[.int .i64 L, r, c] 24)).alloc (.cells #[.int .i64 m, .int .i64 f, .int .i64 k] 26)).alloc (.cells #[.int .i64 x, .int .i64 y] 55)) :=
  ⟨by go_simp, by go_simp, by go_simp, by go_simp, by go_simp, by go_simp, by go_simp, by go_simp, (((Below.refl _ _).alloc (Nat.le_refl _) _).alloc (by simp) _).alloc (by simp; omega) _⟩
end
theorem closeL_lens {L : Int} {rs cs : List Int} {d : Int} (h1 : rs.length ≤ 1000) : (closeL L rs cs d).1.2.1.length ≤ 1000 ∧ (closeL L rs cs d).1.2.2.length ≤ 1000 := by
  by_cases h : (closeL L rs cs d).2 = 0
  · obtain ⟨h2, h3, h4, h5⟩ := closeL_ok h
    obtain ⟨hv, _, _⟩ := checkD_ok h2
    obtain ⟨_, v2, _⟩ := validT_ok hv
    rw [h5]
    have := withTo_len cs d L.toNat
    exact ⟨h1, by dsimp only; omega⟩
  · unfold closeL at h ⊢
    split
    · exact ⟨by simp, by simp⟩
    · split
      · exact ⟨by simp, by simp⟩
      · split
        · exact ⟨by simp, by simp⟩
        · exfalso; simp_all

theorem closes_facts {L : Int} {rs cs : List Int} {d : Int} (h : (closeL L rs cs d).2 = 0) : (closeL L rs cs d).1.1 = L ∧ (closeL L rs cs d).1.2.1 = rs ∧ (∀ z ∈ (closeL L rs cs d).1.2.2, 0 ≤ z ∧ z < 1000) ∧ ∀ o, o ≠ d → ∀ m f, menuL L rs (closeL L rs cs d).1.2.2 m f 1 o = menuL L rs cs m f 1 o := by
  obtain ⟨h2, h3, h4, h5⟩ := closeL_ok h
  obtain ⟨hv, _, _⟩ := checkD_ok h2
  obtain ⟨_, v2, _⟩ := validT_ok hv
  rw [h5]
  exact ⟨rfl, rfl, fun z hz => by have := ((withTo_mem _ _ _ _).1 hz).2; omega, fun o ho m f => close_one h2 h3 h4 ho m f⟩

set_option maxRecDepth 100000 in
set_option maxHeartbeats 8000000 in
theorem closesOne_walk (L : Int) (ra : Option Addr) (rs : List Int) (rc : Nat) (ca : Option Addr) (cs : List Int) (cc : Nat) (m f k x y : Int) (w : World)
  (h1 : rs.length ≤ 9223372036854775807) (h2 : cs.length ≤ 9223372036854775807) (hT : rs.length ≤ 140737488355328 → cs.length ≤ 140737488355328 → TermAt w L ra rs ca cs) :
  Calls Try.prog 10 #[.agg #[.int .i64 L, .slice ra rs.length rc, .slice ca cs.length cc], .agg #[.int .i64 m, .int .i64 f, .int .i64 k], .agg #[.int .i64 x, .int .i64 y]] w (BoolR w true) := by
  have HS0 := hid (OneS.made w L (.slice ra rs.length rc) (.slice ca cs.length cc) m f k x y)
  cases hl : longB rs cs with
  | true =>
    go_enter Try.func10, Try.ntmps10
    go_wp2_with fail
    go_quiet (fail)
    go_wp2_with fail
    refine (long_any _ _ _ _ _ _ _ _ h1 h2).mono ?_
    rintro e w1 ⟨q1, rfl⟩
    have HS1 := hid ((HS0.out.keep (below_drewN (Below.refl _ _) _)).keep q1)
    rw [hl]
    go_wp2_with fail
    refine (known_any _).mono ?_
    rintro e w2 ⟨q2, rfl⟩
    go_wp2
    go_ret
    exact ⟨(HS1.out.keep q2).below, rfl⟩
  | false =>
    have hlen := longB_false hl
    have hT' := hT (by omega) (by omega)
    clear hT
    have HC := hid (fun (w' : World) (hb : Below w.heap.size w w') => close_any L ra rs rc ca cs cc x w' (hT'.below hb))
    have HM := hid (fun (w' : World) (hb : Below w.heap.size w w') => menu_any L ra rs rc ca cs cc m f k y w' (hT'.below hb))
    have HT := hid hT'
    have hls := closeL_lens (L := L) (cs := cs) (d := x) (show rs.length ≤ 1000 by omega)
    have HOk := hid (fun (h : (closeL L rs cs x).2 = 0) => closes_facts h)
    generalize closeL L rs cs x = pc at *
    obtain ⟨⟨p1, p2, p3⟩, pe⟩ := pc
    dsimp only at hls HOk
    go_enter Try.func10, Try.ntmps10
    go_wp2_with fail
    go_quiet (fail)
    go_wp2_with fail
    refine (long_any _ _ _ _ _ _ _ _ h1 h2).mono ?_
    rintro e w1 ⟨q1, rfl⟩
    have HS1 := hid ((HS0.out.keep (below_drewN (Below.refl _ _) _)).keep q1)
    obtain ⟨a0, a1, a2, a3, a4, a5, a6, a7, _⟩ := HS1.out
    rw [hl]
    clear hl q1 HS0 hT'
    go_wp2_with fail
    refine (HC.out _ HS1.out.below).mono ?_
    rintro e w2 ⟨q2, A, c, B, e2, rfl, oA, oB⟩
    have HS2 := hid (HS1.out.keep q2)
    have HS3 := hid (HS2.out.keep ((Below.refl _ _).alloc (Nat.le_refl _) (.cells #[.int .i64 p1, .slice A p2.length c, .slice B p3.length e2] 24)))
    have HA3 := hid (own_below oA ((Below.refl _ _).alloc (Nat.le_refl _) (.cells #[.int .i64 p1, .slice A p2.length c, .slice B p3.length e2] 24)))
    have HB3 := hid (own_below oB ((Below.refl _ _).alloc (Nat.le_refl _) (.cells #[.int .i64 p1, .slice A p2.length c, .slice B p3.length e2] 24)))
    have hz2 := HS2.out.size
    obtain ⟨w3, hw3⟩ : ∃ w3, w2.alloc (.cells #[.int .i64 p1, .slice A p2.length c, .slice B p3.length e2] 24) = w3 := ⟨_, rfl⟩
    have e0 : w3.cell? ⟨w2.heap.size, 0, none⟩ = some (.int .i64 p1) := by rw [← hw3]; clear hw3; go_simp
    have e1 : w3.cell? ⟨w2.heap.size, 1, none⟩ = some (.slice A p2.length c) := by rw [← hw3]; clear hw3; go_simp
    have e3 : w3.cell? ⟨w2.heap.size, 2, none⟩ = some (.slice B p3.length e2) := by rw [← hw3]; clear hw3; go_simp
    rw [hw3] at HS3 HA3 HB3
    clear a0 a1 a2 a3 a4 a5 a6 a7 q2 oA oB HC
    obtain ⟨a0, a1, a2, a3, a4, a5, a6, a7, _⟩ := HS3.out
    dsimp only
    by_cases hz : pe = 0
    · subst hz
      obtain ⟨rfl, rfl, hbd, hmn⟩ := HOk.out rfl
      clear HOk
      by_cases hk : k = 1
      · subst hk
        by_cases hxy : y = x
        · have hxy' : (y == x) = true := by simp [hxy]
          clear hxy
          go_wp2_with fail
          refine (known_any _).mono ?_
          rintro e w4 ⟨q4, rfl⟩
          go_wp2
          go_ret
          exact ⟨(HS3.out.keep q4).below, rfl⟩
        · have hxy' : (y == x) = false := by simp [hxy]
          have HMn := hid (hmn y hxy m f)
          have hme1 : ((menuL p1 p2 cs m f 1 y).1 == (menuL p1 p2 cs m f 1 y).1) = true := by simp
          have hme2 : ((menuL p1 p2 cs m f 1 y).2 == (menuL p1 p2 cs m f 1 y).2) = true := by simp
          have hrb := HT.out.rest.bd
          have hlo := HT.out.lo
          have hhi := HT.out.hi
          obtain ⟨_, _, hv, iA⟩ := (show Own w3 w1.heap.size (.slice A p2.length c) p2 from HA3.out).ints (by omega) hrb
          cases hv
          obtain ⟨_, _, hv, iB⟩ := (show Own w3 w1.heap.size (.slice B p3.length e2) p3 from HB3.out).ints (by omega) (fun z hz => by have := hbd z hz; omega)
          cases hv
          have HT3 := hid (show TermAt w3 p1 A p2 B p3 from ⟨iA, iB, hlo, hhi⟩)
          clear hxy hmn hrb hlo hhi iA iB HA3 HB3
          go_wp2_with fail
          refine (HM.out _ HS3.out.below).mono ?_
          rintro e w4 ⟨q4, rfl⟩
          have HS4 := hid (HS3.out.keep q4)
          have HT4 := hid (HT3.out.below q4)
          have hz3 := cell_lt e0
          simp only at hz3
          have e0' : w4.cell? ⟨w2.heap.size, 0, none⟩ = some (.int .i64 p1) := by rw [q4.cell hz3]; exact e0
          have e1' : w4.cell? ⟨w2.heap.size, 1, none⟩ = some (.slice A p2.length c) := by rw [q4.cell hz3]; exact e1
          have e3' : w4.cell? ⟨w2.heap.size, 2, none⟩ = some (.slice B p3.length e2) := by rw [q4.cell hz3]; exact e3
          clear a0 a1 a2 a3 a4 a5 a6 a7 e0 e1 e3 q4 hw3
          obtain ⟨a0, a1, a2, a3, a4, a5, a6, a7, _⟩ := HS4.out
          go_wp2_with fail
          refine (menu_any p1 A p2 c B p3 e2 m f 1 y _ HT4.out).mono ?_
          rintro e w5 ⟨q5, rfl⟩
          have HS5 := hid (HS4.out.keep q5)
          rw [HMn.out]
          go_wp2_with fail
          refine (known_any _).mono ?_
          rintro e w6 ⟨q6, rfl⟩
          go_wp2
          go_ret
          exact ⟨(HS5.out.keep q6).below, rfl⟩
      · have hk' : (k != 1) = true := by simp [hk]
        clear hk
        go_wp2_with fail
        refine (known_any _).mono ?_
        rintro e w4 ⟨q4, rfl⟩
        go_wp2
        go_ret
        exact ⟨(HS3.out.keep q4).below, rfl⟩
    · have hz' : (pe != 0) = true := by simp [hz]
      clear hz HOk
      go_wp2_with fail
      refine (known_any _).mono ?_
      rintro e w4 ⟨q4, rfl⟩
      go_wp2
      go_ret
      exact ⟨(HS3.out.keep q4).below, rfl⟩
end Go.Proofs.Ytejbokelbapfmaa
