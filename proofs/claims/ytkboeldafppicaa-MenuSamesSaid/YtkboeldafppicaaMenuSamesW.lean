/- The walk of the law MenuSames. -/
import Derived.Test.YtkboeldafppicaaKn3
import Derived.Test.YtkboeldafppicaaRPart
import Derived.Test.YtkboeldafppicaaMPlain
import Derived.Test.YtkboeldafppicaaPlD
import Derived.Test.YtkboeldafppicaaREqualG
import Derived.Test.YtkboeldafppicaaMLg
set_option linter.unusedVariables false
set_option linter.unusedSimpArgs false
namespace Go.Proofs.Ytkboeldafppicaa
open Go.RowKit

theorem pl_zero {n : Nat} {rows : List (List Int)} {accs : List Bool} {M : Int} {t : List (List Int)} {bs : List Bool} {v : Int} (h : PlD n rows accs M t bs v) (hg : GoodM n rows accs) (h64 : rows.length ≤ 64) : v = 0 ∧ M = n ∧ ∃ i, FullC n (mLang n rows accs 0) i ∧ t = (canon n (mLang n rows accs 0) i).2.1 ∧ bs = (canon n (mLang n rows accs 0) i).2.2 ∧ mLang n t bs 0 = mLang n rows accs 0 := by
  rcases h with ⟨hv, _⟩ | ⟨hv, i, hF, hans⟩
  · exact absurd (good_vE hg h64) hv
  · rw [Int.toNat_natCast] at hF hans
    obtain ⟨j, hj, hjl⟩ := fullC_exists (accs := accs) hg.cl 0 hg.pos
    obtain rfl := hF.unique hj
    rcases hans with ⟨h6, _⟩ | ⟨_, hM, ht, hbs, hv0⟩
    · omega
    · refine ⟨hv0, hM, i, hF, ht, hbs, ?_⟩
      rw [ht, hbs]
      have := (full_lang hg.lo hg.hi (L := n) (next := dv) (acc := ep) (s0 := mLang n rows accs 0) hF).1
      unfold canon
      rw [this]
      exact lang_self 0
theorem same_plain {L L' : Int} {rows rows' : List (List Int)} {accs accs' : List Bool} {u : List Int} {is : Bool} {v : Int} (h : PartD L rows accs L' rows' accs' u is v) (hv : v = 0) {M M' : Int} {t t' : List (List Int)} {bs bs' : List Bool} {x y : Int} (hp : PlD L rows accs M t bs x) (hq : PlD L' rows' accs' M' t' bs' y) :
    x = 0 ∧ y = 0 ∧ ((!is) == decide (M = M' ∧ t = t' ∧ bs = bs')) = true := by
  have h0 : twoE L rows accs L' rows' accs' = 0 := by
    rcases h with ⟨hne, _, _, e⟩ | ⟨h0, _⟩
    · exact absurd (e.symm.trans hv) hne
    · exact h0
  obtain ⟨n, rfl, rfl, hg, hg', h64, h64'⟩ := twoE_ok h0
  obtain ⟨_, hl⟩ := h.lang h0
  rw [Int.toNat_natCast] at hl
  obtain ⟨a1, a2, i, a3, a4, a5, a6⟩ := pl_zero hp hg h64
  obtain ⟨b1, b2, j, b3, b4, b5, b6⟩ := pl_zero hq hg' h64'
  refine ⟨a1, b1, ?_⟩
  cases is with
  | false =>
    have he := hl.1 rfl
    rw [he] at a3 a4 a5
    obtain rfl := a3.unique b3
    simp [a2, b2, a4, b4, a5, b5]
  | true =>
    have hne : ¬ (M = M' ∧ t = t' ∧ bs = bs') := by
      rintro ⟨_, rfl, rfl⟩
      have := hl.2 (a6.symm.trans b6)
      cases this
    simp [decide_eq_false hne]
set_option maxRecDepth 100000 in
set_option maxHeartbeats 4000000 in
theorem menuSames_walk (L : Int) (nc ac : Nat) (Na Aa : Option Addr) (rows : List (List Int)) (accs : List Bool) (L' : Int) (nc' ac' : Nat) (Na' Aa' : Option Addr) (rows' : List (List Int)) (accs' : List Bool) (w : World) (hM : MachRaw w Na rows Aa accs) (hM' : MachRaw w Na' rows' Aa' accs') :
    Calls Try.prog 5 #[.agg #[.int .i64 L, .slice Na rows.length nc, .slice Aa accs.length ac], .agg #[.int .i64 L', .slice Na' rows'.length nc', .slice Aa' accs'.length ac']] w fun e w' => Below w.heap.size w w' ∧ e = .returned (.bool true) := by
  have hA : Below w.heap.size w ((w.alloc (.cells #[.int .i64 L, .slice Na rows.length nc, .slice Aa accs.length ac] 25)).alloc (.cells #[.int .i64 L', .slice Na' rows'.length nc', .slice Aa' accs'.length ac'] 25)) := ((Below.refl _ _).alloc (Nat.le_refl _) _).alloc (by simp) _
  have hA1 : Below (w.alloc (.cells #[.int .i64 L, .slice Na rows.length nc, .slice Aa accs.length ac] 25)).heap.size (w.alloc (.cells #[.int .i64 L, .slice Na rows.length nc, .slice Aa accs.length ac] 25)) ((w.alloc (.cells #[.int .i64 L, .slice Na rows.length nc, .slice Aa accs.length ac] 25)).alloc (.cells #[.int .i64 L', .slice Na' rows'.length nc', .slice Aa' accs'.length ac'] 25)) := (Below.refl _ _).alloc (Nat.le_refl _) _
  have HXa := hid ((BoxM.made w L Na rows.length nc Aa accs.length ac).below hA1)
  have HXb := hid (BoxM.made (w.alloc (.cells #[.int .i64 L, .slice Na rows.length nc, .slice Aa accs.length ac] 25)) L' Na' rows'.length nc' Aa' accs'.length ac')
  have HMa := hid (hM.below hA)
  have HMb := hid (hM'.below hA)
  have HB := hid hA
  have hsz : (w.alloc (.cells #[.int .i64 L, .slice Na rows.length nc, .slice Aa accs.length ac] 25)).heap.size = w.heap.size + 1 := by simp
  rw [hsz] at HXb
  clear hM hM' hA hA1 hsz
  have HLg := hid (lLarge_any L nc ac Na Aa rows accs _ HMa.out)
  unfold machV at HLg
  go_enter Try.func5, Try.ntmps5
  have e0 := HXa.out.c0
  have e1 := HXa.out.c1
  have e2 := HXa.out.c2
  cases hlg : largeM rows accs with
  | true =>
    rw [hlg] at HLg
    clear hlg
    go_wp2_with fail
    refine HLg.out.mono ?_
    rintro e w1 ⟨hw1, rfl⟩
    have hbw : Below ((w.alloc (.cells #[.int .i64 L, .slice Na rows.length nc, .slice Aa accs.length ac] 25)).alloc (.cells #[.int .i64 L', .slice Na' rows'.length nc', .slice Aa' accs'.length ac'] 25)).heap.size ((w.alloc (.cells #[.int .i64 L, .slice Na rows.length nc, .slice Aa accs.length ac] 25)).alloc (.cells #[.int .i64 L', .slice Na' rows'.length nc', .slice Aa' accs'.length ac'] 25)) w1 := by rw [hw1]; exact (Below.refl _ _).alloc (Nat.le_refl _) _
    have HB := hid (HB.out.trans (hbw.mono HB.out.size))
    clear hbw hw1 HLg HXa HXb HMa HMb e0 e1 e2
    go_wp2_with fail
    refine (known3_any _).mono ?_
    rintro e wk ⟨hb, rfl⟩
    have HBz := hid (HB.out.trans (hb.mono HB.out.size))
    clear hb
    go_wp2
    go_ret
    exact ⟨HBz.out, rfl⟩
  | false =>
    obtain ⟨hma, _⟩ := largeM_mach HMa.out hlg
    have HMa := hid hma
    rw [hlg] at HLg
    clear hlg hma
    go_wp2_with fail
    refine HLg.out.mono ?_
    rintro e w1 ⟨hw1, rfl⟩
    have hbw : Below ((w.alloc (.cells #[.int .i64 L, .slice Na rows.length nc, .slice Aa accs.length ac] 25)).alloc (.cells #[.int .i64 L', .slice Na' rows'.length nc', .slice Aa' accs'.length ac'] 25)).heap.size ((w.alloc (.cells #[.int .i64 L, .slice Na rows.length nc, .slice Aa accs.length ac] 25)).alloc (.cells #[.int .i64 L', .slice Na' rows'.length nc', .slice Aa' accs'.length ac'] 25)) w1 := by rw [hw1]; exact (Below.refl _ _).alloc (Nat.le_refl _) _
    have HXa := hid (HXa.out.below hbw)
    have HXb := hid (HXb.out.below hbw)
    have HMa := hid (HMa.out.below hbw)
    have HMb := hid (HMb.out.below hbw)
    have HB := hid (HB.out.trans (hbw.mono HB.out.size))
    clear hbw hw1 HLg e0 e1 e2
    have HLg := hid (lLarge_any L' nc' ac' Na' Aa' rows' accs' _ HMb.out)
    unfold machV at HLg
    have e0 := HXb.out.c0
    have e1 := HXb.out.c1
    have e2 := HXb.out.c2
    cases hlg : largeM rows' accs' with
    | true =>
      rw [hlg] at HLg
      clear hlg
      go_wp2_with fail
      refine HLg.out.mono ?_
      rintro e w2 ⟨hw2, rfl⟩
      have hbw : Below w1.heap.size w1 w2 := by rw [hw2]; exact (Below.refl _ _).alloc (Nat.le_refl _) _
      have HB := hid (HB.out.trans (hbw.mono HB.out.size))
      clear hbw hw2 HLg HXa HXb HMa HMb e0 e1 e2
      go_wp2_with fail
      refine (known3_any _).mono ?_
      rintro e wk ⟨hb, rfl⟩
      have HBz := hid (HB.out.trans (hb.mono HB.out.size))
      clear hb
      go_wp2
      go_ret
      exact ⟨HBz.out, rfl⟩
    | false =>
      obtain ⟨hmb, _⟩ := largeM_mach HMb.out hlg
      have HMb := hid hmb
      rw [hlg] at HLg
      clear hlg hmb
      go_wp2_with fail
      refine HLg.out.mono ?_
      rintro e w2 ⟨hw2, rfl⟩
      have hbw : Below w1.heap.size w1 w2 := by rw [hw2]; exact (Below.refl _ _).alloc (Nat.le_refl _) _
      have HXa := hid (HXa.out.below hbw)
      have HXb := hid (HXb.out.below hbw)
      have HMa := hid (HMa.out.below hbw)
      have HMb := hid (HMb.out.below hbw)
      have HB := hid (HB.out.trans (hbw.mono HB.out.size))
      clear hbw hw2 HLg e0 e1 e2
      have HC := hid (mSame_any L nc ac Na Aa rows accs L' nc' ac' Na' Aa' rows' accs' _ HMa.out HMb.out)
      unfold machV at HC
      have e0 := HXa.out.c0
      have e1 := HXa.out.c1
      have e2 := HXa.out.c2
      have d0 := HXb.out.c0
      have d1 := HXb.out.c1
      have d2 := HXb.out.c2
      go_wp2_with fail
      refine HC.out.mono ?_
      rintro e w3 ⟨hb, hans⟩
      clear HC e0 e1 e2 d0 d1 d2
      obtain ⟨u1, is1, v1, hD, rfl⟩ := hans
      have HD := hid hD
      have HXa := hid (HXa.out.below hb)
      have HMa := hid (HMa.out.below hb)
      have HXb := hid (HXb.out.below hb)
      have HMb := hid (HMb.out.below hb)
      have HB := hid (HB.out.trans (hb.mono HB.out.size))
      clear hb hD
      have HC := hid (rSame_any L nc ac Na Aa rows accs L' nc' ac' Na' Aa' rows' accs' _ HMa.out HMb.out)
      unfold machV at HC
      have e0 := HXa.out.c0
      have e1 := HXa.out.c1
      have e2 := HXa.out.c2
      have d0 := HXb.out.c0
      have d1 := HXb.out.c1
      have d2 := HXb.out.c2
      go_wp2_with fail
      refine HC.out.mono ?_
      rintro e w4 ⟨hb, hans⟩
      clear HC e0 e1 e2 d0 d1 d2
      obtain ⟨u2, is2, v2, hD, rfl⟩ := hans
      obtain ⟨rfl, rfl, rfl⟩ := HD.out.unique hD
      clear HD
      have HD := hid hD
      have HXa := hid (HXa.out.below hb)
      have HMa := hid (HMa.out.below hb)
      have HXb := hid (HXb.out.below hb)
      have HMb := hid (HMb.out.below hb)
      have HB := hid (HB.out.trans (hb.mono HB.out.size))
      clear hb hD
      have HC := hid (mPart_any L nc ac Na Aa rows accs L' nc' ac' Na' Aa' rows' accs' _ HMa.out HMb.out)
      unfold machV at HC
      have e0 := HXa.out.c0
      have e1 := HXa.out.c1
      have e2 := HXa.out.c2
      have d0 := HXb.out.c0
      have d1 := HXb.out.c1
      have d2 := HXb.out.c2
      go_wp2_with fail
      refine HC.out.mono ?_
      rintro e w5 ⟨hb, hans⟩
      clear HC e0 e1 e2 d0 d1 d2
      obtain ⟨u3, is3, v3, A3, c3, hD, hI, rfl⟩ := hans
      obtain ⟨rfl, rfl, rfl⟩ := HD.out.unique hD
      clear HD
      have HD := hid hD
      have HXa := hid (HXa.out.below hb)
      have HMa := hid (HMa.out.below hb)
      have HXb := hid (HXb.out.below hb)
      have HMb := hid (HMb.out.below hb)
      have HB := hid (HB.out.trans (hb.mono HB.out.size))
      have HI3 := hid hI
      clear hI
      clear hb hD
      have HC := hid (rPart_any L nc ac Na Aa rows accs L' nc' ac' Na' Aa' rows' accs' _ HMa.out HMb.out)
      unfold machV at HC
      have e0 := HXa.out.c0
      have e1 := HXa.out.c1
      have e2 := HXa.out.c2
      have d0 := HXb.out.c0
      have d1 := HXb.out.c1
      have d2 := HXb.out.c2
      go_wp2_with fail
      refine HC.out.mono ?_
      rintro e w6 ⟨hb, hans⟩
      clear HC e0 e1 e2 d0 d1 d2
      obtain ⟨u4, is4, v4, A4, c4, hD, hI, rfl⟩ := hans
      obtain ⟨rfl, rfl, rfl⟩ := HD.out.unique hD
      clear HD
      have HD := hid hD
      have HXa := hid (HXa.out.below hb)
      have HMa := hid (HMa.out.below hb)
      have HXb := hid (HXb.out.below hb)
      have HMb := hid (HMb.out.below hb)
      have HI3 := hid (HI3.out.below hb)
      have HB := hid (HB.out.trans (hb.mono HB.out.size))
      have HI4 := hid hI
      clear hI
      clear hb hD
      have hlen := HI3.out.len
      have HS := hid (sameIntsM_any A3 A4 u4 u4 c3 c4 _ HI3.out HI4.out)
      have hdt : decide (u4 = u4) = true := decide_eq_true rfl
      rw [hdt] at HS
      generalize hX : (decide (v4 = 0) && !is4) = X at *
      have HXX := hid hX
      have q1 : (X != X) = false := by simp
      have q2 : (v4 != v4) = false := by simp
      have q3 : (is4 != is4) = false := by simp
      have q4 : (!(X == X)) = false := by simp
      have q5 : (!(is4 == is4)) = false := by simp
      clear hX hdt
      go_wp2_with fail
      refine HS.out.mono ?_
      rintro e w7 ⟨⟨m7, hm7⟩, rfl⟩
      have hb : Below w6.heap.size w6 w7 := by rw [hm7]; exact drw w6 m7
      have HXa := hid (HXa.out.below hb)
      have HMa := hid (HMa.out.below hb)
      have HXb := hid (HXb.out.below hb)
      have HMb := hid (HMb.out.below hb)
      have HB := hid (HB.out.trans (hb.mono HB.out.size))
      clear hb hm7 HS HI3 HI4 hlen q1 q2 q3 q4 q5
      have HP := hid (mPlain_any L nc ac Na Aa rows accs _ HMa.out)
      unfold machV at HP
      have e0 := HXa.out.c0
      have e1 := HXa.out.c1
      have e2 := HXa.out.c2
      go_wp2_with fail
      refine HP.out.mono ?_
      rintro e w8 ⟨hb, hans⟩
      obtain ⟨M1, t1, b1, x1, N1, n1, A1, a1, hD, rfl, hmk⟩ := pla_out hans
      have HP1 := hid hD
      clear HP e0 e1 e2
      have hal : Below w8.heap.size w8 (w8.alloc (.cells #[.int .i64 M1, .slice N1 t1.length n1, .slice A1 b1.length a1] 25)) := (Below.refl _ _).alloc (Nat.le_refl _) _
      have HX1 := hid (BoxM.made w8 M1 N1 t1.length n1 A1 b1.length a1)
      have HM1 := hid (hmk.mach.below hal)
      have hbb := hb.trans (hal.mono hb.size)
      have HXa := hid (HXa.out.below hbb)
      have HMa := hid (HMa.out.below hbb)
      have HXb := hid (HXb.out.below hbb)
      have HMb := hid (HMb.out.below hbb)
      have HB := hid (HB.out.trans (hbb.mono HB.out.size))
      clear hb hans hD hmk hal hbb
      have HP := hid (mPlain_any L' nc' ac' Na' Aa' rows' accs' _ HMb.out)
      unfold machV at HP ⊢
      have e0 := HXb.out.c0
      have e1 := HXb.out.c1
      have e2 := HXb.out.c2
      go_wp2_with fail
      refine HP.out.mono ?_
      rintro e w9 ⟨hb, hans⟩
      obtain ⟨M2, t2, b2, x2, N2, n2, A2, a2, hD, rfl, hmk⟩ := pla_out hans
      have HP2 := hid hD
      clear HP e0 e1 e2
      generalize w8.alloc (.cells #[.int .i64 M1, .slice N1 t1.length n1, .slice A1 b1.length a1] 25) = y8 at *
      have hal : Below w9.heap.size w9 (w9.alloc (.cells #[.int .i64 M2, .slice N2 t2.length n2, .slice A2 b2.length a2] 25)) := (Below.refl _ _).alloc (Nat.le_refl _) _
      have HX2 := hid (BoxM.made w9 M2 N2 t2.length n2 A2 b2.length a2)
      have HM2 := hid (hmk.mach.below hal)
      have hbb := hb.trans (hal.mono hb.size)
      have HX1 := hid (HX1.out.below hbb)
      have HM1 := hid (HM1.out.below hbb)
      have HB := hid (HB.out.trans (hbb.mono HB.out.size))
      have HEq := hid (rEqual_any M1 M2 n1 a1 n2 a2 N1 A1 N2 A2 t1 t2 b1 b2 _ HM1.out HM2.out)
      clear hb hans hD hmk hal hbb HXa HXb HMa HMb
      unfold machV at HEq ⊢
      by_cases hv : v4 = 0
      · obtain ⟨hx1, hx2, hxe⟩ := same_plain HD.out hv HP1.out HP2.out
        have hXe : X = !is4 := by rw [← HXX.out, hv]; simp
        rw [← hXe] at hxe
        subst hx1 hx2
        have z0 : (v4 != 0) = false := by simp [hv]
        have z1 : ((0 : Int) == 0) = true := rfl
        clear hv HD HP1 HP2 HXX hXe
        generalize decide (M1 = M2 ∧ t1 = t2 ∧ b1 = b2) = E at *
        have e0 := HX1.out.c0
        have e1 := HX1.out.c1
        have e2 := HX1.out.c2
        have d0 := HX2.out.c0
        have d1 := HX2.out.c1
        have d2 := HX2.out.c2
        go_wp2_with fail
        refine HEq.out.mono ?_
        rintro e w10 ⟨hb, rfl⟩
        have HB := hid (HB.out.trans (hb.mono HB.out.size))
        clear hb HEq e0 e1 e2 d0 d1 d2
        go_wp2_with fail
        refine (known3_any _).mono ?_
        rintro e wk ⟨hb, rfl⟩
        have HBz := hid (HB.out.trans (hb.mono HB.out.size))
        clear hb
        go_wp2
        go_ret
        exact ⟨HBz.out, rfl⟩
      · have z0 : (v4 != 0) = true := by simp [hv]
        clear hv HD HP1 HP2 HXX HEq
        go_wp2_with fail
        refine (known3_any _).mono ?_
        rintro e wk ⟨hb, rfl⟩
        have HBz := hid (HB.out.trans (hb.mono HB.out.size))
        clear hb
        go_wp2
        go_ret
        exact ⟨HBz.out, rfl⟩
end Go.Proofs.Ytkboeldafppicaa
