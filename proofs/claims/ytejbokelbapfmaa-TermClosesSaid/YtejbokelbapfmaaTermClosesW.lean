/- The law TermCloses: its walk. -/
import Derived.Test.YtejbokelbapfmaaBoxes
import Derived.Test.YtejbokelbapfmaaRReopen
import Derived.Test.YtejbokelbapfmaaCopy
import Derived.Test.YtejbokelbapfmaaLong
import Derived.Test.YtejbokelbapfmaaKnown
set_option linter.unusedVariables false
namespace Go.Proofs.Ytejbokelbapfmaa
open Go.RowKit

set_option maxRecDepth 100000 in
set_option maxHeartbeats 16000000 in
theorem closes_walk (L : Int) (ra : Option Addr) (rs : List Int) (rc : Nat) (ca : Option Addr) (cs : List Int) (cc : Nat) (d : Int) (w : World)
  (h1 : rs.length ≤ 9223372036854775807) (h2 : cs.length ≤ 9223372036854775807) (hT : rs.length ≤ 140737488355328 → cs.length ≤ 140737488355328 → TermAt w L ra rs ca cs) :
  Calls Try.prog 9 #[.agg #[.int .i64 L, .slice ra rs.length rc, .slice ca cs.length cc], .int .i64 d] w (BoolR w true) := by
  have HX0 := hid (BoxT.made w L (.slice ra rs.length rc) (.slice ca cs.length cc))
  have HW0 := hid (made_below w L (.slice ra rs.length rc) (.slice ca cs.length cc))
  cases hl : longB rs cs with
  | true =>
    go_enter Try.func9, Try.ntmps9
    go_wp2_with fail
    refine (long_any _ _ _ _ _ _ _ _ h1 h2).mono ?_
    rintro e w1 ⟨q1, rfl⟩
    have HW1 := hid (HW0.out.trans (q1.mono HW0.out.size))
    rw [hl]
    go_wp2_with fail
    refine (known_any _).mono ?_
    rintro e w2 ⟨q2, rfl⟩
    go_wp2
    go_ret
    exact ⟨HW1.out.trans (q2.mono HW1.out.size), rfl⟩
  | false =>
    have hlen := longB_false hl
    have hT' := hT (by omega) (by omega)
    clear hT
    have HG0 := hid (show GoodT ((L, rs, cs), 0) from ⟨⟨hT'.lo, hT'.hi⟩, ⟨by dsimp only; omega, by dsimp only; omega⟩, hT'.rest.bd, hT'.closed.bd⟩)
    have HGp := hid (good_close (d := d) HG0.out)
    have HGq := hid (good_reopen (d := d) HG0.out)
    have HGr := hid (good_reopen (d := d) (show GoodT (((closeL L rs cs d).1.1, (closeL L rs cs d).1.2.1, (closeL L rs cs d).1.2.2), 0) from HGp.out))
    have HGs := hid (good_close (d := d) (show GoodT (((reopenL L rs cs d).1.1, (reopenL L rs cs d).1.2.1, (reopenL L rs cs d).1.2.2), 0) from HGq.out))
    have HCo := hid (fun (w' : World) (ha : TermAt w' L ra rs ca cs) => copy_any L ra rs rc ca cs cc w' ha (by omega) (by omega))
    have HCl := hid (fun (A : Option Addr) (a : Nat) (B : Option Addr) (b : Nat) (w' : World) (ha : TermAt w' L A rs B cs) => close_any L A rs a B cs b d w' ha)
    have HRc := hid (fun (w' : World) (ha : TermAt w' L ra rs ca cs) => rclose_any L ra rs rc ca cs cc d w' ha)
    have HRo := hid (fun (A : Option Addr) (a : Nat) (B : Option Addr) (b : Nat) (w' : World) (ha : TermAt w' L A rs B cs) => reopen_any L A rs a B cs b d w' ha)
    have HRr := hid (fun (w' : World) (ha : TermAt w' L ra rs ca cs) => rreopen_any L ra rs rc ca cs cc d w' ha)
    have HCx := hid (fun (A : Option Addr) (a : Nat) (B : Option Addr) (b : Nat) (w' : World) (ha : TermAt w' (closeL L rs cs d).1.1 A (closeL L rs cs d).1.2.1 B (closeL L rs cs d).1.2.2) => reopen_any (closeL L rs cs d).1.1 A (closeL L rs cs d).1.2.1 a B (closeL L rs cs d).1.2.2 b d w' ha)
    have HCy := hid (fun (A : Option Addr) (a : Nat) (B : Option Addr) (b : Nat) (w' : World) (ha : TermAt w' (reopenL L rs cs d).1.1 A (reopenL L rs cs d).1.2.1 B (reopenL L rs cs d).1.2.2) => close_any (reopenL L rs cs d).1.1 A (reopenL L rs cs d).1.2.1 a B (reopenL L rs cs d).1.2.2 b d w' ha)
    have HEp := hid (fun (h : (closeL L rs cs d).2 = 0) => close_reopen2 h)
    have HEq := hid (fun (h : (reopenL L rs cs d).2 = 0) => reopen_close2 h)
    have HT := hid (hT'.below HW0.out)
    generalize reopenL (closeL L rs cs d).1.1 (closeL L rs cs d).1.2.1 (closeL L rs cs d).1.2.2 d = r at *
    generalize closeL (reopenL L rs cs d).1.1 (reopenL L rs cs d).1.2.1 (reopenL L rs cs d).1.2.2 d = s at *
    generalize closeL L rs cs d = p at *
    generalize reopenL L rs cs d = q at *
    obtain ⟨⟨p1, p2, p3⟩, pe⟩ := p
    obtain ⟨⟨q1, q2, q3⟩, qe⟩ := q
    obtain ⟨⟨r1, r2, r3⟩, re⟩ := r
    obtain ⟨⟨s1, s2, s3⟩, se⟩ := s
    dsimp only at HEp HEq HCx HCy
    obtain ⟨hp2, hp3⟩ := HGp.out.2.1
    dsimp only at hp2 hp3
    clear hlen hT'
    go_enter Try.func9, Try.ntmps9
    go_wp2_with fail
    refine (long_any _ _ _ _ _ _ _ _ h1 h2).mono ?_
    rintro e w1 ⟨z1, rfl⟩
    rw [hl]
    clear hl
    have HX1 := hid (HX0.out.keep z1)
    have HW1 := hid (HW0.out.trans (z1.mono HW0.out.size))
    have HT1 := hid (HT.out.below z1)
    clear z1 HX0 HW0 HT
    obtain ⟨a0, a1, a2⟩ := HX1.out
    go_wp2_with fail
    refine (HCo.out _ HT1.out).mono ?_
    rintro e w2 ⟨z2, vA, vB, rfl, oA, oB⟩
    obtain ⟨A, ac, rfl⟩ := own_slice oA
    obtain ⟨B, bc, rfl⟩ := own_slice oB
    have m2 := made_below w2 L (.slice A rs.length ac) (.slice B cs.length bc)
    have HX2 := hid ((HX1.out.keep z2).keep m2)
    have HW2 := hid ((HW1.out.trans (z2.mono HW1.out.size)).trans (m2.mono (Nat.le_trans HW1.out.size z2.size)))
    have HT2 := hid ((HT1.out.below z2).below m2)
    have HO2 := hid ((GoodT.at HG0.out oA oB).below m2)
    have HY2 := hid (BoxT.made w2 L (.slice A rs.length ac) (.slice B cs.length bc))
    clear a0 a1 a2 m2 z2 oA oB HCo HG0 HX1 HW1 HT1
    obtain ⟨a0, a1, a2⟩ := HX2.out
    obtain ⟨b0, b1, b2⟩ := HY2.out
    go_wp2_with fail
    refine (HCl.out A ac B bc _ HO2.out).mono ?_
    rintro e w3 ⟨z3, PA, pa, PB, pb, rfl, oPA, oPB⟩
    dsimp only at oPA oPB ⊢
    generalize hw2a : (w2.alloc (.cells #[.int .i64 L, .slice A rs.length ac, .slice B cs.length bc] 24)) = W2 at *
    have hm := HY2.out.lt
    have m3 := made_below w3 p1 (.slice PA p2.length pa) (.slice PB p3.length pb)
    have HX3 := hid ((HX2.out.keep z3).keep m3)
    have HY3 := hid ((HY2.out.keep z3).keep m3)
    have HW3 := hid ((HW2.out.trans (z3.mono HW2.out.size)).trans (m3.mono (Nat.le_trans HW2.out.size z3.size)))
    have HT3 := hid ((HT2.out.below z3).below m3)
    have HO3 := hid ((HO2.out.below z3).below m3)
    have HP3 := hid ((GoodT.at HGp.out oPA oPB).below m3)
    have HL3 := hid (show LoopS W2 W2.heap.size w3.heap.size p1 PA p2.length pa PB p3.length pb (w3.alloc (.cells #[.int .i64 p1, .slice PA p2.length pa, .slice PB p3.length pb] 24)) from
      ⟨BoxT.made _ _ _ _, (Own.writ oPA).keep m3, (Own.writ oPB).keep m3, z3.trans (m3.mono z3.size)⟩)
    have hg3 := z3.size
    have HX2' := HX2
    have HT2' := HT2
    have hxs := HX2.out.lt
    clear a0 a1 a2 b0 b1 b2 m3 z3 oPA oPB HCl HX2 HT2
    obtain ⟨a0, a1, a2⟩ := HX3.out
    obtain ⟨b0, b1, b2⟩ := HY3.out
    obtain ⟨c0, c1, c2⟩ := HL3.out.1
    go_wp2_with fail
    refine (HRc.out _ HT3.out).mono ?_
    rintro e w4 ⟨z4, UA, ua, UB, ub, rfl, oUA, oUB⟩
    dsimp only at oUA oUB ⊢
    have m4 := made_below w4 p1 (.slice UA p2.length ua) (.slice UB p3.length ub)
    have HX4 := hid ((HX3.out.keep z4).keep m4)
    have HY4 := hid ((HY3.out.keep z4).keep m4)
    have HW4 := hid ((HW3.out.trans (z4.mono HW3.out.size)).trans (m4.mono (Nat.le_trans HW3.out.size z4.size)))
    have HT4 := hid ((HT3.out.below z4).below m4)
    have HO4 := hid ((HO3.out.below z4).below m4)
    have HP4 := hid ((HP3.out.below z4).below m4)
    have HL4 := hid ((HL3.out.keep hg3 z4).keep hg3 m4)
    have HU4 := hid ((GoodT.at HGp.out oUA oUB).below m4)
    have HZ4 := hid (BoxT.made w4 p1 (.slice UA p2.length ua) (.slice UB p3.length ub))
    clear a0 a1 a2 b0 b1 b2 c0 c1 c2 m4 z4 oUA oUB HRc HX3 HY3 HW3 HT3 HO3 HP3 HL3
    obtain ⟨a0, a1, a2⟩ := HX4.out
    obtain ⟨b0, b1, b2⟩ := HY4.out
    obtain ⟨c0, c1, c2⟩ := HL4.out.1
    obtain ⟨e0, e1, e2⟩ := HZ4.out
    go_wp2_with fail
    refine (HRo.out A ac B bc _ HO4.out).mono ?_
    rintro e w5 ⟨z5, CA, ca5, CB, cb5, rfl, oCA, oCB⟩
    dsimp only at oCA oCB ⊢
    have m5 := made_below w5 q1 (.slice CA q2.length ca5) (.slice CB q3.length cb5)
    have HX5 := hid ((HX4.out.keep z5).keep m5)
    have HY5 := hid ((HY4.out.keep z5).keep m5)
    have HZ5 := hid ((HZ4.out.keep z5).keep m5)
    have HW5 := hid ((HW4.out.trans (z5.mono HW4.out.size)).trans (m5.mono (Nat.le_trans HW4.out.size z5.size)))
    have HT5 := hid ((HT4.out.below z5).below m5)
    have HO5 := hid ((HO4.out.below z5).below m5)
    have HP5 := hid ((HP4.out.below z5).below m5)
    have HU5 := hid ((HU4.out.below z5).below m5)
    have HL5 := hid ((HL4.out.keep hg3 z5).keep hg3 m5)
    have HC5 := hid ((GoodT.at HGq.out oCA oCB).below m5)
    have HV5 := hid (BoxT.made w5 q1 (.slice CA q2.length ca5) (.slice CB q3.length cb5))
    clear a0 a1 a2 b0 b1 b2 c0 c1 c2 e0 e1 e2 m5 z5 oCA oCB HRo HX4 HY4 HZ4 HW4 HT4 HO4 HP4 HU4 HL4
    obtain ⟨a0, a1, a2⟩ := HX5.out
    obtain ⟨b0, b1, b2⟩ := HY5.out
    obtain ⟨c0, c1, c2⟩ := HL5.out.1
    obtain ⟨e0, e1, e2⟩ := HZ5.out
    obtain ⟨f0, f1, f2⟩ := HV5.out
    go_wp2_with fail
    refine (HRr.out _ HT5.out).mono ?_
    rintro e w6 ⟨z6, DA, da, DB, db, rfl, oDA, oDB⟩
    dsimp only at oDA oDB ⊢
    have m6 := made_below w6 q1 (.slice DA q2.length da) (.slice DB q3.length db)
    have HX6 := hid ((HX5.out.keep z6).keep m6)
    have HY6 := hid ((HY5.out.keep z6).keep m6)
    have HZ6 := hid ((HZ5.out.keep z6).keep m6)
    have HV6 := hid ((HV5.out.keep z6).keep m6)
    have HW6 := hid ((HW5.out.trans (z6.mono HW5.out.size)).trans (m6.mono (Nat.le_trans HW5.out.size z6.size)))
    have HT6 := hid ((HT5.out.below z6).below m6)
    have HO6 := hid ((HO5.out.below z6).below m6)
    have HP6 := hid ((HP5.out.below z6).below m6)
    have HU6 := hid ((HU5.out.below z6).below m6)
    have HC6 := hid ((HC5.out.below z6).below m6)
    have HL6 := hid ((HL5.out.keep hg3 z6).keep hg3 m6)
    have HD6 := hid ((GoodT.at HGq.out oDA oDB).below m6)
    have HQ6 := hid (BoxT.made w6 q1 (.slice DA q2.length da) (.slice DB q3.length db))
    clear a0 a1 a2 b0 b1 b2 c0 c1 c2 e0 e1 e2 f0 f1 f2 m6 z6 oDA oDB HRr HX5 HY5 HZ5 HV5 HW5 HT5 HO5 HP5 HU5 HC5 HL5
    obtain ⟨a0, a1, a2⟩ := HX6.out
    obtain ⟨c0, c1, c2⟩ := HL6.out.1
    obtain ⟨e0, e1, e2⟩ := HZ6.out
    obtain ⟨f0, f1, f2⟩ := HV6.out
    obtain ⟨g0, g1, g2⟩ := HQ6.out
    have hpe : (pe != pe) = false := by simp
    have hqe : (qe != qe) = false := by simp
    go_wp2_with fail
    refine (rsame_any _ _ _ _ _ _ _ _ _ _ _ _ _ _ _ HP6.out HU6.out).mono ?_
    rintro e w7 ⟨z7, rfl⟩
    rw [sameT_self]
    have HX7 := hid (HX6.out.keep z7)
    have HY7 := hid (HY6.out.keep z7)
    have HV7 := hid (HV6.out.keep z7)
    have HQ7 := hid (HQ6.out.keep z7)
    have HW7 := hid (HW6.out.trans (z7.mono HW6.out.size))
    have HT7 := hid (HT6.out.below z7)
    have HO7 := hid (HO6.out.below z7)
    have HP7 := hid (HP6.out.below z7)
    have HC7 := hid (HC6.out.below z7)
    have HD7 := hid (HD6.out.below z7)
    have HL7 := hid (HL6.out.keep hg3 z7)
    clear a0 a1 a2 c0 c1 c2 e0 e1 e2 f0 f1 f2 g0 g1 g2 z7 HX6 HY6 HZ6 HV6 HQ6 HW6 HT6 HO6 HP6 HU6 HC6 HD6 HL6
    obtain ⟨a0, a1, a2⟩ := HX7.out
    obtain ⟨c0, c1, c2⟩ := HL7.out.1
    obtain ⟨f0, f1, f2⟩ := HV7.out
    obtain ⟨g0, g1, g2⟩ := HQ7.out
    go_wp2_with fail
    refine (rsame_any _ _ _ _ _ _ _ _ _ _ _ _ _ _ _ HC7.out HD7.out).mono ?_
    rintro e w8 ⟨z8, rfl⟩
    rw [sameT_self]
    have HX8 := hid (HX7.out.keep z8)
    have HY8 := hid (HY7.out.keep z8)
    have HV8 := hid (HV7.out.keep z8)
    have HW8 := hid (HW7.out.trans (z8.mono HW7.out.size))
    have HT8 := hid (HT7.out.below z8)
    have HO8 := hid (HO7.out.below z8)
    have HP8 := hid (HP7.out.below z8)
    have HC8 := hid (HC7.out.below z8)
    have HL8 := hid (HL7.out.keep hg3 z8)
    clear a0 a1 a2 c0 c1 c2 f0 f1 f2 g0 g1 g2 z8 HX7 HY7 HV7 HQ7 HW7 HT7 HO7 HP7 HC7 HD7 HL7
    obtain ⟨a0, a1, a2⟩ := HX8.out
    obtain ⟨c0, c1, c2⟩ := HL8.out.1
    obtain ⟨f0, f1, f2⟩ := HV8.out
    go_wp2_with fail
    refine (HCx.out PA pa PB pb _ HP8.out).mono ?_
    rintro e w9 ⟨z9, XA, xa, XB, xb, rfl, oXA, oXB⟩
    dsimp only at oXA oXB ⊢
    have m9 := made_below w9 r1 (.slice XA r2.length xa) (.slice XB r3.length xb)
    have HX9 := hid ((HX8.out.keep z9).keep m9)
    have HY9 := hid ((HY8.out.keep z9).keep m9)
    have HV9 := hid ((HV8.out.keep z9).keep m9)
    have HW9 := hid ((HW8.out.trans (z9.mono HW8.out.size)).trans (m9.mono (Nat.le_trans HW8.out.size z9.size)))
    have HT9 := hid ((HT8.out.below z9).below m9)
    have HO9 := hid ((HO8.out.below z9).below m9)
    have HC9 := hid ((HC8.out.below z9).below m9)
    have HL9 := hid ((HL8.out.keep hg3 z9).keep hg3 m9)
    have HR9 := hid ((GoodT.at HGr.out oXA oXB).below m9)
    have HK9 := hid (BoxT.made w9 r1 (.slice XA r2.length xa) (.slice XB r3.length xb))
    clear a0 a1 a2 c0 c1 c2 f0 f1 f2 m9 z9 oXA oXB HCx HX8 HY8 HV8 HW8 HT8 HO8 HP8 HC8 HL8
    obtain ⟨a0, a1, a2⟩ := HX9.out
    obtain ⟨c0, c1, c2⟩ := HL9.out.1
    obtain ⟨f0, f1, f2⟩ := HV9.out
    obtain ⟨e0, e1, e2⟩ := HK9.out
    go_wp2_with fail
    refine (HCy.out CA ca5 CB cb5 _ HC9.out).mono ?_
    rintro e w10 ⟨z10, YA, ya, YB, yb, rfl, oYA, oYB⟩
    dsimp only at oYA oYB ⊢
    have m10 := made_below w10 s1 (.slice YA s2.length ya) (.slice YB s3.length yb)
    have HX := hid ((HX9.out.keep z10).keep m10)
    have HY := hid ((HY9.out.keep z10).keep m10)
    have HK := hid ((HK9.out.keep z10).keep m10)
    have HW := hid ((HW9.out.trans (z10.mono HW9.out.size)).trans (m10.mono (Nat.le_trans HW9.out.size z10.size)))
    have HT := hid ((HT9.out.below z10).below m10)
    have HO := hid ((HO9.out.below z10).below m10)
    have HR := hid ((HR9.out.below z10).below m10)
    have HL := hid ((HL9.out.keep hg3 z10).keep hg3 m10)
    have HS := hid ((GoodT.at HGs.out oYA oYB).below m10)
    have HJ := hid (BoxT.made w10 s1 (.slice YA s2.length ya) (.slice YB s3.length yb))
    clear a0 a1 a2 c0 c1 c2 f0 f1 f2 e0 e1 e2 m10 z10 oYA oYB HCy HX9 HY9 HV9 HW9 HT9 HO9 HC9 HL9 HR9 HK9 HGp HGq HGr HGs
    by_cases hp : pe = 0
    · have hr := HEp.out hp
      simp only [Prod.mk.injEq] at hr
      obtain ⟨⟨rfl, rfl, rfl⟩, rfl⟩ := hr
      subst hp
      by_cases hq : qe = 0
      · have hs := HEq.out hq
        simp only [Prod.mk.injEq] at hs
        obtain ⟨⟨rfl, rfl, rfl⟩, rfl⟩ := hs
        subst hq
        obtain ⟨a0, a1, a2⟩ := HX.out
        obtain ⟨c0, c1, c2⟩ := HL.out.1
        obtain ⟨e0, e1, e2⟩ := HK.out
        obtain ⟨f0, f1, f2⟩ := HJ.out
        go_wp2_with fail
        refine (rsame_any _ _ _ _ _ _ _ _ _ _ _ _ _ _ _ HR.out HT.out).mono ?_
        rintro e w11 ⟨zz, rfl⟩
        rw [sameT_self]
        replace HX := hid (HX.out.keep zz)
        replace HY := hid (HY.out.keep zz)
        replace HK := hid (HK.out.keep zz)
        replace HJ := hid (HJ.out.keep zz)
        replace HT := hid (HT.out.below zz)
        replace HO := hid (HO.out.below zz)
        replace HR := hid (HR.out.below zz)
        replace HS := hid (HS.out.below zz)
        replace HW := hid (HW.out.trans (zz.mono HW.out.size))
        replace HL := hid (HL.out.keep hg3 zz)
        clear zz
        clear a0 a1 a2 c0 c1 c2 e0 e1 e2 f0 f1 f2
        obtain ⟨a0, a1, a2⟩ := HX.out
        obtain ⟨c0, c1, c2⟩ := HL.out.1
        obtain ⟨e0, e1, e2⟩ := HK.out
        obtain ⟨f0, f1, f2⟩ := HJ.out
        go_wp2_with fail
        refine (rsame_any _ _ _ _ _ _ _ _ _ _ _ _ _ _ _ HS.out HT.out).mono ?_
        rintro e w12 ⟨zz, rfl⟩
        rw [sameT_self]
        replace HX := hid (HX.out.keep zz)
        replace HY := hid (HY.out.keep zz)
        replace HK := hid (HK.out.keep zz)
        replace HJ := hid (HJ.out.keep zz)
        replace HT := hid (HT.out.below zz)
        replace HO := hid (HO.out.below zz)
        replace HR := hid (HR.out.below zz)
        replace HS := hid (HS.out.below zz)
        replace HW := hid (HW.out.trans (zz.mono HW.out.size))
        replace HL := hid (HL.out.keep hg3 zz)
        clear zz
        clear a0 a1 a2 c0 c1 c2 e0 e1 e2 f0 f1 f2
        clear HK HJ HR HS HEp HEq
        obtain ⟨c0, c1, c2⟩ := HL.out.1
        go_wp2
        go_loopw [19] (fun i wr => ∃ (k : Nat), k ≤ p3.length ∧ i = .int .i64 k ∧ LoopS W2 W2.heap.size w3.heap.size p1 PA p2.length pa PB p3.length pb wr) (fun i _ => p3.length - (intOf i).toNat)
        case atStart => exact ⟨0, Nat.zero_le _, rfl, HL.out⟩
        case round =>
          clear c0 c1 c2
          obtain ⟨k, hk, rfl, hLr⟩ := hrel
          have HLr := hid hLr
          clear hLr
          obtain ⟨c0, c1, c2⟩ := HLr.out.1
          by_cases hlt : k < p3.length
          · obtain ⟨b, hb, hb1, hb2, ⟨u, hu⟩, hf⟩ := HLr.out.2.2.1 k hlt
            rw [hb] at c2
            have hbg : b ≠ w3.heap.size := by omega
            go_wp2
            go_roundw
            case rel => exact ⟨k + 1, by omega, by go_num, HLr.out.set hb1 hb2 _⟩
            case measure => simp [intOf]; omega
          · have hk3 : k = p3.length := by omega
            clear hlt
            subst hk3
            go_wp2
            go_loopw [20] (fun i wr => ∃ (k : Nat), k ≤ p2.length ∧ i = .int .i64 k ∧ LoopS W2 W2.heap.size w3.heap.size p1 PA p2.length pa PB p3.length pb wr) (fun i _ => p2.length - (intOf i).toNat)
            case atStart => exact ⟨0, Nat.zero_le _, rfl, HLr.out⟩
            case round =>
              clear c0 c1 c2 HLr
              obtain ⟨k, hk, rfl, hLr⟩ := hrel
              have HLr := hid hLr
              clear hLr
              obtain ⟨c0, c1, c2⟩ := HLr.out.1
              by_cases hlt : k < p2.length
              · obtain ⟨b, hb, hb1, hb2, ⟨u, hu⟩, hf⟩ := HLr.out.2.1 k hlt
                rw [hb] at c1
                have hbg : b ≠ w3.heap.size := by omega
                go_wp2
                go_roundw
                case rel => exact ⟨k + 1, by omega, by go_num, HLr.out.set hb1 hb2 _⟩
                case measure => simp [intOf]; omega
              · have hk2 : k = p2.length := by omega
                subst hk2
                have HBl := HLr.out.2.2.2
                have HXf := hid (HX2'.out.keepN HBl hxs)
                have HYf := hid (HY2.out.keepN HBl hm)
                have HWf := hid (HW2.out.trans (HBl.mono HW2.out.size))
                have HTf := hid (HT2'.out.below HBl)
                have HOf := hid (HO2.out.below HBl)
                clear HBl hlt
                obtain ⟨a0, a1, a2⟩ := HXf.out
                obtain ⟨b0, b1, b2⟩ := HYf.out
                go_wp2_with fail
                refine (rsame_any _ _ _ _ _ _ _ _ _ _ _ _ _ _ _ HOf.out HTf.out).mono ?_
                rintro e wf ⟨zf, rfl⟩
                rw [sameT_self]
                have HWg := hid (HWf.out.trans (zf.mono HWf.out.size))
                go_wp2_with fail
                refine (known_any _).mono ?_
                rintro e wh ⟨zh, rfl⟩
                go_wp2
                go_ret
                exact ⟨HWg.out.trans (zh.mono HWg.out.size), rfl⟩
      · have hq' : (qe != 0) = true := by simp [hq]
        obtain ⟨a0, a1, a2⟩ := HX.out
        obtain ⟨c0, c1, c2⟩ := HL.out.1
        obtain ⟨e0, e1, e2⟩ := HK.out
        obtain ⟨f0, f1, f2⟩ := HJ.out
        go_wp2_with fail
        refine (rsame_any _ _ _ _ _ _ _ _ _ _ _ _ _ _ _ HR.out HT.out).mono ?_
        rintro e w11 ⟨zz, rfl⟩
        rw [sameT_self]
        replace HX := hid (HX.out.keep zz)
        replace HY := hid (HY.out.keep zz)
        replace HK := hid (HK.out.keep zz)
        replace HJ := hid (HJ.out.keep zz)
        replace HT := hid (HT.out.below zz)
        replace HO := hid (HO.out.below zz)
        replace HR := hid (HR.out.below zz)
        replace HS := hid (HS.out.below zz)
        replace HW := hid (HW.out.trans (zz.mono HW.out.size))
        replace HL := hid (HL.out.keep hg3 zz)
        clear zz
        clear a0 a1 a2 c0 c1 c2 e0 e1 e2 f0 f1 f2
        clear HK HJ HR HS HEp HEq
        obtain ⟨c0, c1, c2⟩ := HL.out.1
        go_wp2
        go_loopw [19] (fun i wr => ∃ (k : Nat), k ≤ p3.length ∧ i = .int .i64 k ∧ LoopS W2 W2.heap.size w3.heap.size p1 PA p2.length pa PB p3.length pb wr) (fun i _ => p3.length - (intOf i).toNat)
        case atStart => exact ⟨0, Nat.zero_le _, rfl, HL.out⟩
        case round =>
          clear c0 c1 c2
          obtain ⟨k, hk, rfl, hLr⟩ := hrel
          have HLr := hid hLr
          clear hLr
          obtain ⟨c0, c1, c2⟩ := HLr.out.1
          by_cases hlt : k < p3.length
          · obtain ⟨b, hb, hb1, hb2, ⟨u, hu⟩, hf⟩ := HLr.out.2.2.1 k hlt
            rw [hb] at c2
            have hbg : b ≠ w3.heap.size := by omega
            go_wp2
            go_roundw
            case rel => exact ⟨k + 1, by omega, by go_num, HLr.out.set hb1 hb2 _⟩
            case measure => simp [intOf]; omega
          · have hk3 : k = p3.length := by omega
            clear hlt
            subst hk3
            go_wp2
            go_loopw [20] (fun i wr => ∃ (k : Nat), k ≤ p2.length ∧ i = .int .i64 k ∧ LoopS W2 W2.heap.size w3.heap.size p1 PA p2.length pa PB p3.length pb wr) (fun i _ => p2.length - (intOf i).toNat)
            case atStart => exact ⟨0, Nat.zero_le _, rfl, HLr.out⟩
            case round =>
              clear c0 c1 c2 HLr
              obtain ⟨k, hk, rfl, hLr⟩ := hrel
              have HLr := hid hLr
              clear hLr
              obtain ⟨c0, c1, c2⟩ := HLr.out.1
              by_cases hlt : k < p2.length
              · obtain ⟨b, hb, hb1, hb2, ⟨u, hu⟩, hf⟩ := HLr.out.2.1 k hlt
                rw [hb] at c1
                have hbg : b ≠ w3.heap.size := by omega
                go_wp2
                go_roundw
                case rel => exact ⟨k + 1, by omega, by go_num, HLr.out.set hb1 hb2 _⟩
                case measure => simp [intOf]; omega
              · have hk2 : k = p2.length := by omega
                subst hk2
                have HBl := HLr.out.2.2.2
                have HXf := hid (HX2'.out.keepN HBl hxs)
                have HYf := hid (HY2.out.keepN HBl hm)
                have HWf := hid (HW2.out.trans (HBl.mono HW2.out.size))
                have HTf := hid (HT2'.out.below HBl)
                have HOf := hid (HO2.out.below HBl)
                clear HBl hlt
                obtain ⟨a0, a1, a2⟩ := HXf.out
                obtain ⟨b0, b1, b2⟩ := HYf.out
                go_wp2_with fail
                refine (rsame_any _ _ _ _ _ _ _ _ _ _ _ _ _ _ _ HOf.out HTf.out).mono ?_
                rintro e wf ⟨zf, rfl⟩
                rw [sameT_self]
                have HWg := hid (HWf.out.trans (zf.mono HWf.out.size))
                go_wp2_with fail
                refine (known_any _).mono ?_
                rintro e wh ⟨zh, rfl⟩
                go_wp2
                go_ret
                exact ⟨HWg.out.trans (zh.mono HWg.out.size), rfl⟩
    · have hp' : (pe != 0) = true := by simp [hp]
      by_cases hq : qe = 0
      · have hs := HEq.out hq
        simp only [Prod.mk.injEq] at hs
        obtain ⟨⟨rfl, rfl, rfl⟩, rfl⟩ := hs
        subst hq
        obtain ⟨a0, a1, a2⟩ := HX.out
        obtain ⟨c0, c1, c2⟩ := HL.out.1
        obtain ⟨e0, e1, e2⟩ := HK.out
        obtain ⟨f0, f1, f2⟩ := HJ.out
        go_wp2_with fail
        refine (rsame_any _ _ _ _ _ _ _ _ _ _ _ _ _ _ _ HS.out HT.out).mono ?_
        rintro e w12 ⟨zz, rfl⟩
        rw [sameT_self]
        replace HX := hid (HX.out.keep zz)
        replace HY := hid (HY.out.keep zz)
        replace HK := hid (HK.out.keep zz)
        replace HJ := hid (HJ.out.keep zz)
        replace HT := hid (HT.out.below zz)
        replace HO := hid (HO.out.below zz)
        replace HR := hid (HR.out.below zz)
        replace HS := hid (HS.out.below zz)
        replace HW := hid (HW.out.trans (zz.mono HW.out.size))
        replace HL := hid (HL.out.keep hg3 zz)
        clear zz
        clear a0 a1 a2 c0 c1 c2 e0 e1 e2 f0 f1 f2
        clear HK HJ HR HS HEp HEq
        obtain ⟨c0, c1, c2⟩ := HL.out.1
        go_wp2
        go_loopw [19] (fun i wr => ∃ (k : Nat), k ≤ p3.length ∧ i = .int .i64 k ∧ LoopS W2 W2.heap.size w3.heap.size p1 PA p2.length pa PB p3.length pb wr) (fun i _ => p3.length - (intOf i).toNat)
        case atStart => exact ⟨0, Nat.zero_le _, rfl, HL.out⟩
        case round =>
          clear c0 c1 c2
          obtain ⟨k, hk, rfl, hLr⟩ := hrel
          have HLr := hid hLr
          clear hLr
          obtain ⟨c0, c1, c2⟩ := HLr.out.1
          by_cases hlt : k < p3.length
          · obtain ⟨b, hb, hb1, hb2, ⟨u, hu⟩, hf⟩ := HLr.out.2.2.1 k hlt
            rw [hb] at c2
            have hbg : b ≠ w3.heap.size := by omega
            go_wp2
            go_roundw
            case rel => exact ⟨k + 1, by omega, by go_num, HLr.out.set hb1 hb2 _⟩
            case measure => simp [intOf]; omega
          · have hk3 : k = p3.length := by omega
            clear hlt
            subst hk3
            go_wp2
            go_loopw [20] (fun i wr => ∃ (k : Nat), k ≤ p2.length ∧ i = .int .i64 k ∧ LoopS W2 W2.heap.size w3.heap.size p1 PA p2.length pa PB p3.length pb wr) (fun i _ => p2.length - (intOf i).toNat)
            case atStart => exact ⟨0, Nat.zero_le _, rfl, HLr.out⟩
            case round =>
              clear c0 c1 c2 HLr
              obtain ⟨k, hk, rfl, hLr⟩ := hrel
              have HLr := hid hLr
              clear hLr
              obtain ⟨c0, c1, c2⟩ := HLr.out.1
              by_cases hlt : k < p2.length
              · obtain ⟨b, hb, hb1, hb2, ⟨u, hu⟩, hf⟩ := HLr.out.2.1 k hlt
                rw [hb] at c1
                have hbg : b ≠ w3.heap.size := by omega
                go_wp2
                go_roundw
                case rel => exact ⟨k + 1, by omega, by go_num, HLr.out.set hb1 hb2 _⟩
                case measure => simp [intOf]; omega
              · have hk2 : k = p2.length := by omega
                subst hk2
                have HBl := HLr.out.2.2.2
                have HXf := hid (HX2'.out.keepN HBl hxs)
                have HYf := hid (HY2.out.keepN HBl hm)
                have HWf := hid (HW2.out.trans (HBl.mono HW2.out.size))
                have HTf := hid (HT2'.out.below HBl)
                have HOf := hid (HO2.out.below HBl)
                clear HBl hlt
                obtain ⟨a0, a1, a2⟩ := HXf.out
                obtain ⟨b0, b1, b2⟩ := HYf.out
                go_wp2_with fail
                refine (rsame_any _ _ _ _ _ _ _ _ _ _ _ _ _ _ _ HOf.out HTf.out).mono ?_
                rintro e wf ⟨zf, rfl⟩
                rw [sameT_self]
                have HWg := hid (HWf.out.trans (zf.mono HWf.out.size))
                go_wp2_with fail
                refine (known_any _).mono ?_
                rintro e wh ⟨zh, rfl⟩
                go_wp2
                go_ret
                exact ⟨HWg.out.trans (zh.mono HWg.out.size), rfl⟩
      · have hq' : (qe != 0) = true := by simp [hq]
        clear HK HJ HR HS HEp HEq
        obtain ⟨c0, c1, c2⟩ := HL.out.1
        go_wp2
        go_loopw [19] (fun i wr => ∃ (k : Nat), k ≤ p3.length ∧ i = .int .i64 k ∧ LoopS W2 W2.heap.size w3.heap.size p1 PA p2.length pa PB p3.length pb wr) (fun i _ => p3.length - (intOf i).toNat)
        case atStart => exact ⟨0, Nat.zero_le _, rfl, HL.out⟩
        case round =>
          clear c0 c1 c2
          obtain ⟨k, hk, rfl, hLr⟩ := hrel
          have HLr := hid hLr
          clear hLr
          obtain ⟨c0, c1, c2⟩ := HLr.out.1
          by_cases hlt : k < p3.length
          · obtain ⟨b, hb, hb1, hb2, ⟨u, hu⟩, hf⟩ := HLr.out.2.2.1 k hlt
            rw [hb] at c2
            have hbg : b ≠ w3.heap.size := by omega
            go_wp2
            go_roundw
            case rel => exact ⟨k + 1, by omega, by go_num, HLr.out.set hb1 hb2 _⟩
            case measure => simp [intOf]; omega
          · have hk3 : k = p3.length := by omega
            clear hlt
            subst hk3
            go_wp2
            go_loopw [20] (fun i wr => ∃ (k : Nat), k ≤ p2.length ∧ i = .int .i64 k ∧ LoopS W2 W2.heap.size w3.heap.size p1 PA p2.length pa PB p3.length pb wr) (fun i _ => p2.length - (intOf i).toNat)
            case atStart => exact ⟨0, Nat.zero_le _, rfl, HLr.out⟩
            case round =>
              clear c0 c1 c2 HLr
              obtain ⟨k, hk, rfl, hLr⟩ := hrel
              have HLr := hid hLr
              clear hLr
              obtain ⟨c0, c1, c2⟩ := HLr.out.1
              by_cases hlt : k < p2.length
              · obtain ⟨b, hb, hb1, hb2, ⟨u, hu⟩, hf⟩ := HLr.out.2.1 k hlt
                rw [hb] at c1
                have hbg : b ≠ w3.heap.size := by omega
                go_wp2
                go_roundw
                case rel => exact ⟨k + 1, by omega, by go_num, HLr.out.set hb1 hb2 _⟩
                case measure => simp [intOf]; omega
              · have hk2 : k = p2.length := by omega
                subst hk2
                have HBl := HLr.out.2.2.2
                have HXf := hid (HX2'.out.keepN HBl hxs)
                have HYf := hid (HY2.out.keepN HBl hm)
                have HWf := hid (HW2.out.trans (HBl.mono HW2.out.size))
                have HTf := hid (HT2'.out.below HBl)
                have HOf := hid (HO2.out.below HBl)
                clear HBl hlt
                obtain ⟨a0, a1, a2⟩ := HXf.out
                obtain ⟨b0, b1, b2⟩ := HYf.out
                go_wp2_with fail
                refine (rsame_any _ _ _ _ _ _ _ _ _ _ _ _ _ _ _ HOf.out HTf.out).mono ?_
                rintro e wf ⟨zf, rfl⟩
                rw [sameT_self]
                have HWg := hid (HWf.out.trans (zf.mono HWf.out.size))
                go_wp2_with fail
                refine (known_any _).mono ?_
                rintro e wh ⟨zh, rfl⟩
                go_wp2
                go_ret
                exact ⟨HWg.out.trans (zh.mono HWg.out.size), rfl⟩
end Go.Proofs.Ytejbokelbapfmaa
