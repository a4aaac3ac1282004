/- The law MenuNots: for every input the Go function returns true, and its arguments read as before. -/
import Derived.Test.YtkboeldafppicaaKn3
import Derived.Test.YtkboeldafppicaaRNot
import Derived.Test.YtkboeldafppicaaREqual
import Derived.Test.YtkboeldafppicaaMLg
/- The walk of the law MenuNots. -/
set_option linter.unusedVariables false
set_option linter.unusedSimpArgs false
namespace Go.Proofs.Ytkboeldafppicaa
open Go.RowKit

set_option maxRecDepth 100000 in
set_option maxHeartbeats 4000000 in
theorem menuNots_walk (L : Int) (nc ac : Nat) (Na Aa : Option Addr) (rows : List (List Int)) (accs : List Bool) (w : World) (hM : MachRaw w Na rows Aa accs) :
    Calls Try.prog 7 #[.agg #[.int .i64 L, .slice Na rows.length nc, .slice Aa accs.length ac]] w fun e w' => Below w.heap.size w w' ∧ e = .returned (.bool true) := by
  have hA : Below w.heap.size w (w.alloc (.cells #[.int .i64 L, .slice Na rows.length nc, .slice Aa accs.length ac] 25)) := (Below.refl _ _).alloc (Nat.le_refl _) _
  have HXm := hid (BoxM.made w L Na rows.length nc Aa accs.length ac)
  have HMm := hid (hM.below hA)
  have HB := hid hA
  clear hM hA
  have HLg := hid (lLarge_any L nc ac Na Aa rows accs _ HMm.out)
  unfold machV at HLg
  go_enter Try.func7, Try.ntmps7
  have e0 := HXm.out.c0
  have e1 := HXm.out.c1
  have e2 := HXm.out.c2
  cases hlg : largeM rows accs with
  | true =>
    rw [hlg] at HLg
    clear hlg
    go_wp2_with fail
    refine HLg.out.mono ?_
    rintro e w1 ⟨hw1, rfl⟩
    have hbw : Below (w.alloc (.cells #[.int .i64 L, .slice Na rows.length nc, .slice Aa accs.length ac] 25)).heap.size (w.alloc (.cells #[.int .i64 L, .slice Na rows.length nc, .slice Aa accs.length ac] 25)) w1 := by rw [hw1]; exact (Below.refl _ _).alloc (Nat.le_refl _) _
    have HB := hid (HB.out.trans (hbw.mono HB.out.size))
    clear hbw hw1 HLg HXm HMm e0 e1 e2
    go_wp2_with fail
    refine (known3_any _).mono ?_
    rintro e wk ⟨hb, rfl⟩
    have HBz := hid (HB.out.trans (hb.mono HB.out.size))
    clear hb
    go_wp2
    go_ret
    exact ⟨HBz.out, rfl⟩
  | false =>
    obtain ⟨hma, _⟩ := largeM_mach HMm.out hlg
    have HMm := hid hma
    rw [hlg] at HLg
    clear hlg hma
    go_wp2_with fail
    refine HLg.out.mono ?_
    rintro e w1 ⟨hw1, rfl⟩
    have hbw : Below (w.alloc (.cells #[.int .i64 L, .slice Na rows.length nc, .slice Aa accs.length ac] 25)).heap.size (w.alloc (.cells #[.int .i64 L, .slice Na rows.length nc, .slice Aa accs.length ac] 25)) w1 := by rw [hw1]; exact (Below.refl _ _).alloc (Nat.le_refl _) _
    have HXm := hid (HXm.out.below hbw)
    have HMm := hid (HMm.out.below hbw)
    have HB := hid (HB.out.trans (hbw.mono HB.out.size))
    clear hbw hw1 HLg e0 e1 e2
    have HC := hid (mNot_any L nc ac Na Aa rows accs _ HMm.out)
    unfold machV at HC
    have e0 := HXm.out.c0
    have e1 := HXm.out.c1
    have e2 := HXm.out.c2
    go_wp2_with fail
    refine HC.out.mono ?_
    rintro e w2 ⟨hb, hans⟩
    clear HC e0 e1 e2
    obtain ⟨M1, t1, b1, v1, N1, n1, A1, a1, hD, rfl, hmk⟩ := lg_out hans
    have HD1 := hid hD
    have hal : Below w2.heap.size w2 (w2.alloc (.cells #[.int .i64 M1, .slice N1 t1.length n1, .slice A1 b1.length a1] 25)) := (Below.refl _ _).alloc (Nat.le_refl _) _
    have HX1 := hid (BoxM.made w2 M1 N1 t1.length n1 A1 b1.length a1)
    have HM1 := hid (hmk.mach.below hal)
    have hbb := hb.trans (hal.mono hb.size)
    have HXm := hid (HXm.out.below hbb)
    have HMm := hid (HMm.out.below hbb)
    have HB := hid (HB.out.trans (hbb.mono HB.out.size))
    clear hb hans hD hmk hal hbb
    unfold machV
    have HC := hid (rNot_any L nc ac Na Aa rows accs _ HMm.out)
    unfold machV at HC
    have e0 := HXm.out.c0
    have e1 := HXm.out.c1
    have e2 := HXm.out.c2
    go_wp2_with fail
    refine HC.out.mono ?_
    rintro e w3 ⟨hb, hans⟩
    clear HC e0 e1 e2
    generalize w2.alloc (.cells #[.int .i64 M1, .slice N1 t1.length n1, .slice A1 b1.length a1] 25) = y2 at *
    obtain ⟨M2, t2, b2, v2, N2, n2, A2, a2, hD, rfl, hmk⟩ := lg_out hans
    have HD2 := hid hD
    have hal : Below w3.heap.size w3 (w3.alloc (.cells #[.int .i64 M2, .slice N2 t2.length n2, .slice A2 b2.length a2] 25)) := (Below.refl _ _).alloc (Nat.le_refl _) _
    have HX2 := hid (BoxM.made w3 M2 N2 t2.length n2 A2 b2.length a2)
    have HM2 := hid (hmk.mach.below hal)
    have hbb := hb.trans (hal.mono hb.size)
    have HXm := hid (HXm.out.below hbb)
    have HMm := hid (HMm.out.below hbb)
    have HX1 := hid (HX1.out.below hbb)
    have HM1 := hid (HM1.out.below hbb)
    have HB := hid (HB.out.trans (hbb.mono HB.out.size))
    clear hb hans hD hmk hal hbb
    unfold machV
    obtain ⟨rfl, rfl, rfl, rfl⟩ := HD1.out.unique HD2.out
    clear HD1
    have hvv : (v2 != v2) = false := by simp
    have HEq := hid (rEqual_same M2 n1 a1 n2 a2 N1 A1 N2 A2 t2 b2 _ HM1.out HM2.out)
    unfold machV at HEq
    have e0 := HX1.out.c0
    have e1 := HX1.out.c1
    have e2 := HX1.out.c2
    have d0 := HX2.out.c0
    have d1 := HX2.out.c1
    have d2 := HX2.out.c2
    go_wp2_with fail
    refine HEq.out.mono ?_
    rintro e w4 ⟨hb, rfl⟩
    clear HEq e0 e1 e2 d0 d1 d2
    have HXm := hid (HXm.out.below hb)
    have HMm := hid (HMm.out.below hb)
    have HX1 := hid (HX1.out.below hb)
    have HM1 := hid (HM1.out.below hb)
    have HB := hid (HB.out.trans (hb.mono HB.out.size))
    clear hb
    clear hvv HX2 HM2
    by_cases hv : v2 = 0
    · subst hv
      have SXm := HXm
      have SMm := HMm
      have SX1 := HX1
      have SM1 := HM1
      have SB := HB
      have hok := HD2.out.ok0
      obtain ⟨n, rfl⟩ := vE_nat hok
      obtain ⟨hg, h64⟩ := vE_ok hok
      have hD2 := HD2.out
      rw [Int.toNat_natCast] at hD2
      obtain ⟨hl0, rfl, hga, ht64, hla, hrest⟩ := hD2.good rfl hg.lo hg.hi (lang_self (next := mN rows) (acc := fun s => !mA accs s) 0)
      clear hl0 hrest
      have HXm := SXm
      have HMm := SMm
      have HX1 := SX1
      have HM1 := SM1
      have HB := SB
      clear SXm SMm SX1 SM1 SB
      have hva := good_vE hga ht64
      have hnn := nLang_twice hla
      have htwo : twoE n rows accs n t2 b2 = 0 := by unfold twoE; simp [hok, hva]
      have hbn := both_not hla
      have HOk := hid hok
      have HG := hid hg
      have HH := hid h64
      have HVa := hid hva
      have HNn := hid hnn
      have HTw := hid htwo
      have HBn := hid hbn
      clear hok hg h64 hD2 hga ht64 hla hva hnn htwo hbn HD2
      have HC := hid (mNot_any n n1 a1 N1 A1 t2 b2 _ HM1.out)
      unfold machV at HC
      have e0 := HX1.out.c0
      have e1 := HX1.out.c1
      have e2 := HX1.out.c2
      go_wp2_with fail
      refine HC.out.mono ?_
      rintro e w5 ⟨hb, hans⟩
      clear HC e0 e1 e2
      obtain ⟨M3, t3, b3, v3, N3, n3, A3, a3, hD, rfl, hmk⟩ := lg_out hans
      have HD3 := hid hD
      have hal : Below w5.heap.size w5 (w5.alloc (.cells #[.int .i64 M3, .slice N3 t3.length n3, .slice A3 b3.length a3] 25)) := (Below.refl _ _).alloc (Nat.le_refl _) _
      have HX3 := hid (BoxM.made w5 M3 N3 t3.length n3 A3 b3.length a3)
      have HM3 := hid (hmk.mach.below hal)
      have hbb := hb.trans (hal.mono hb.size)
      have HXm := hid (HXm.out.below hbb)
      have HMm := hid (HMm.out.below hbb)
      have HX1 := hid (HX1.out.below hbb)
      have HM1 := hid (HM1.out.below hbb)
      have HB := hid (HB.out.trans (hbb.mono HB.out.size))
      clear hb hans hD hmk hal hbb
      unfold machV
      have HC := hid (mPlain_any n nc ac Na Aa rows accs _ HMm.out)
      unfold machV at HC
      have e0 := HXm.out.c0
      have e1 := HXm.out.c1
      have e2 := HXm.out.c2
      go_wp2_with fail
      refine HC.out.mono ?_
      rintro e w6 ⟨hb, hans⟩
      clear HC e0 e1 e2
      generalize w5.alloc (.cells #[.int .i64 M3, .slice N3 t3.length n3, .slice A3 b3.length a3] 25) = y4 at *
      obtain ⟨M4, t4, b4, v4, N4, n4, A4, a4, hD, rfl, hmk⟩ := lg_out hans
      have HD4 := hid hD
      have hal : Below w6.heap.size w6 (w6.alloc (.cells #[.int .i64 M4, .slice N4 t4.length n4, .slice A4 b4.length a4] 25)) := (Below.refl _ _).alloc (Nat.le_refl _) _
      have HX4 := hid (BoxM.made w6 M4 N4 t4.length n4 A4 b4.length a4)
      have HM4 := hid (hmk.mach.below hal)
      have hbb := hb.trans (hal.mono hb.size)
      have HXm := hid (HXm.out.below hbb)
      have HMm := hid (HMm.out.below hbb)
      have HX1 := hid (HX1.out.below hbb)
      have HM1 := hid (HM1.out.below hbb)
      have HX3 := hid (HX3.out.below hbb)
      have HM3 := hid (HM3.out.below hbb)
      have HB := hid (HB.out.trans (hbb.mono HB.out.size))
      clear hb hans hD hmk hal hbb
      unfold machV
      have HC := hid (mBoth_any n nc ac Na Aa rows accs n n1 a1 N1 A1 t2 b2 _ HMm.out HM1.out)
      unfold machV at HC
      have e0 := HXm.out.c0
      have e1 := HXm.out.c1
      have e2 := HXm.out.c2
      have d0 := HX1.out.c0
      have d1 := HX1.out.c1
      have d2 := HX1.out.c2
      go_wp2_with fail
      refine HC.out.mono ?_
      rintro e w7 ⟨hb, hans⟩
      clear HC e0 e1 e2 d0 d1 d2
      generalize w6.alloc (.cells #[.int .i64 M4, .slice N4 t4.length n4, .slice A4 b4.length a4] 25) = y5 at *
      obtain ⟨M5, t5, b5, v5, N5, n5, A5, a5, hD, rfl, hmk⟩ := lg_out hans
      have HD5 := hid hD
      have hal : Below w7.heap.size w7 (w7.alloc (.cells #[.int .i64 M5, .slice N5 t5.length n5, .slice A5 b5.length a5] 25)) := (Below.refl _ _).alloc (Nat.le_refl _) _
      have HX5 := hid (BoxM.made w7 M5 N5 t5.length n5 A5 b5.length a5)
      have HM5 := hid (hmk.mach.below hal)
      have hbb := hb.trans (hal.mono hb.size)
      have HX3 := hid (HX3.out.below hbb)
      have HM3 := hid (HM3.out.below hbb)
      have HX4 := hid (HX4.out.below hbb)
      have HM4 := hid (HM4.out.below hbb)
      have HB := hid (HB.out.trans (hbb.mono HB.out.size))
      clear hb hans hD hmk hal hbb
      unfold machV
      have SHX3 := HX3
      have SHX4 := HX4
      have SHX5 := HX5
      have SHM3 := HM3
      have SHM4 := HM4
      have SHM5 := HM5
      have SHB := HB
      have hD3 := HD3.out
      rw [HVa.out, Int.toNat_natCast, HNn.out] at hD3
      have hD4 := HD4.out
      rw [HOk.out, Int.toNat_natCast] at hD4
      obtain ⟨rfl, rfl, rfl, rfl⟩ := hD3.unique hD4
      obtain rfl := plain_zero hD4 HG.out HH.out
      have hD5 := HD5.out
      rw [HTw.out, Int.toNat_natCast, HBn.out] at hD5
      obtain ⟨rfl, h5⟩ := none_one hD5 HG.out.lo HG.out.hi
      have H5 := hid h5
      clear h5
      have HX3 := SHX3
      have HX4 := SHX4
      have HX5 := SHX5
      have HM3 := SHM3
      have HM4 := SHM4
      have HM5 := SHM5
      have HB := SHB
      clear HD3 HD4 HD5 hD3 hD4 hD5 HXm HMm HX1 HM1 SHX3 SHX4 SHX5 SHM3 SHM4 SHM5 SHB
      have HEq := hid (rEqual_same M4 n3 a3 n4 a4 N3 A3 N4 A4 t4 b4 _ HM3.out HM4.out)
      unfold machV at HEq
      have e0 := HX3.out.c0
      have e1 := HX3.out.c1
      have e2 := HX3.out.c2
      have d0 := HX4.out.c0
      have d1 := HX4.out.c1
      have d2 := HX4.out.c2
      go_wp2_with fail
      refine HEq.out.mono ?_
      rintro e w8 ⟨hb, rfl⟩
      clear HEq e0 e1 e2 d0 d1 d2
      have HX5 := hid (HX5.out.below hb)
      have HM5 := hid (HM5.out.below hb)
      have HB := hid (HB.out.trans (hb.mono HB.out.size))
      clear hb
      obtain ⟨h5t, h5b, h5a⟩ := H5.out
      obtain ⟨bA, oA, hA5, hca⟩ : ∃ bA oA, A5 = some ⟨bA, oA, none⟩ ∧ ∀ i, i < b5.length → w8.cell? ⟨bA, oA + i, none⟩ = some (.bool (b5[i]?.getD false)) := by
        rcases HM5.out.aat with e | ⟨bA, oA, h1, h2⟩
        · rw [e] at h5b; simp at h5b
        · exact ⟨bA, oA, h1, h2⟩
      have c5 := hca 0 (by omega)
      rw [Nat.add_zero, show b5[0]?.getD false = mA b5 0 from rfl, h5a] at c5
      have SB := HB
      have SX5 := HX5
      subst hA5
      have HB := SB
      have HX5 := SX5
      have x1 := HX5.out.c1
      have x2 := HX5.out.c2
      rw [h5t] at x1
      rw [h5b] at x2
      clear hca HX3 HX4 HM3 HM4 HX5 HM5 h5t h5b h5a
      go_wp2_with fail
      refine (known3_any _).mono ?_
      rintro e wk ⟨hb, rfl⟩
      have HBz := hid (HB.out.trans (hb.mono HB.out.size))
      clear hb
      go_wp2
      go_ret
      exact ⟨HBz.out, rfl⟩
    · have hv1 : (v2 != 0) = true := by simpa using hv
      clear HXm HMm HX1 HM1
      go_wp2_with fail
      refine (known3_any _).mono ?_
      rintro e wk ⟨hb, rfl⟩
      have HBz := hid (HB.out.trans (hb.mono HB.out.size))
      clear hb
      go_wp2
      go_ret
      exact ⟨HBz.out, rfl⟩
end Go.Proofs.Ytkboeldafppicaa
set_option linter.unusedVariables false
namespace Go.Proofs.Ytkboeldafppicaa.lawMenuNots
open Go.ChangeShapes Go.WideShapes Go.ChangeAt Go.RowKit Go.Joins
open Go.ChangeMaps (open_string shut_string)

theorem paramsK : Try.f7.params = #[25] := by kernel_rfl

set_option maxRecDepth 100000 in
set_option maxHeartbeats 1000000 in
theorem lifted (os : Os) (started : os.Started) (H : Type) (enc : TypeId × Value → H) :
    ReturnsInHanded {} Try.checked os 7 .any (Rows.menuNotsSpec.pre6 enc Try.prog Try.f7 Rows.menuNotsRow.domain false) (Rows.menuNotsSpec.post enc Try.prog Try.f7 false true false false) := by
  refine returnsInHanded_of_change (C := Try.checked) law_own started (by kernel_rfl) Try.func7
    (ChangeSpec.witness6 (enc := enc) (C := Try.checked) false ⟨#[], #[.agg #[.int .i64 0, .slice none 0 0, .slice none 0 0]], []⟩ 8 (by kernel_rfl) (by kernel_rfl) (by kernel_rfl) (by kernel_rfl)) ?_
  intro W base args ds gs before hval0 hW hcnd _
  have hval : ∀ (j : Nat) t v, Try.f7.params[j]? = some t → args[j]? = some v → Value.okWide Try.prog W .any base t v := hval0
  have hW' := hW
  obtain ⟨p, q, hA0, hV, rfl, hfz, hnd⟩ := hW
  have hA : DataW.TrodAll enc Try.prog W 0 (fun _ => true) true Try.f7.params.toList args.toList ds p := hA0
  rw [paramsK] at hA hval
  obtain ⟨v0, vs0, d0, ds0, p0, q0, hargs, rfl, rfl, h0, r0⟩ := trodAll_cons hA
  obtain ⟨rfl, rfl, rfl⟩ := trodAll_nil r0
  obtain rfl : args = #[v0] := by cases args; simp_all
  obtain ⟨rfl, rfl⟩ := trodVars_none hV
  have lt0 : ∀ x ∈ p0, x.block < W.heap.size := by obtain ⟨m, hm⟩ := h0; exact DataW.trod_lt m _ _ _ hm
  have k0 := h0
  obtain ⟨L0, Na0, rows0, nc0, Aa0, accs0, ac0, rfl, bL0, M0⟩ := open_machine (hval 0 25 v0 rfl rfl) h0
  clear hA0 hval0
  refine (menuNots_walk L0 nc0 ac0 Na0 Aa0 rows0 accs0 W M0).mono fun e W' ⟨bel, he⟩ => ?_
  subst he
  exact ⟨_, rfl, _, _, _, [], _, [], hW', trodAll_mk1 (shut_bool Try.underlying4 _), (trodAll_cons_mk (Below.trod law_laidOut (by kernel_rfl) (of_decide_eq_true (by kernel_rfl)) k0 bel lt0) (trodAll_mk0)), rfl, bel.frame _, fun h => by cases h⟩

theorem over : Rows.menuNotsRow.holds Try.pinned (OpenSpec.ofChange Rows.menuNotsSpec) :=
  OpenClaim.holds_of_wide 7 Try.f7 rfl rfl rfl rfl rfl rfl rfl ⟨rfl, rfl, rfl, rfl, rfl⟩ rfl rfl rfl rfl rfl (by kernel_rfl) Try.func7 (by kernel_rfl)
    (of_decide_eq_true (by kernel_rfl)) (by unfold Func.isWrapper; first | (rw [if_pos (by decide +kernel)]; kernel_rfl) | (rw [if_neg (by decide +kernel)]; exact ⟨rfl, rfl⟩))
    (fun os started H enc _ => lifted os started H enc)

theorem proved : Rows.MenuNotsSaid := over
#print axioms proved
end Go.Proofs.Ytkboeldafppicaa.lawMenuNots
