/- exchanged of the document (written by gen_exg.py). -/
import Derived.Test.YtdgleicpcjfnoaaSwdP
import Derived.Test.YtdgleicpcjfnoaaSwapR
set_option linter.unusedVariables false
set_option linter.unusedSimpArgs false
namespace Go.Proofs.Ytdgleicpcjfnoaa
open Go.RowKit

/-- The cells from n on are kept, but those of two blocks. -/
def KBn (n q z : Nat) (w w' : World) : Prop := ∀ b off v, n ≤ b → b ≠ q → b ≠ z → w.cell? ⟨b, off, none⟩ = some v → w'.cell? ⟨b, off, none⟩ = some v
theorem KBn.refl (n q z : Nat) (w : World) : KBn n q z w w := fun _ _ _ _ _ _ h => h
theorem KBn.trans {n q z : Nat} {w w1 w2 : World} (h : KBn n q z w w1) (h2 : KBn n q z w1 w2) : KBn n q z w w2 := fun b off v a1 a2 a3 h0 => h2 b off v a1 a2 a3 (h b off v a1 a2 a3 h0)
theorem KBn.below {n q z : Nat} {w w' : World} (hb : Below w.heap.size w w') : KBn n q z w w' := fun b off v _ _ _ h0 => (hb.cell (p := ⟨b, off, none⟩) (cell_lt h0)).trans h0
theorem KBn.setCell (n q z : Nat) (w : World) (p : Addr) (u : Value) (hp : p.block = q ∨ p.block = z) : KBn n q z w (w.setCell p u) := by
  intro b off v _ h1 h2 h0
  rw [World.cell?_setCell_far _ _ _ _ (by dsimp only; omega)]
  exact h0
/-- A book that reads the same whatever becomes of the two boxes. -/
def CurB (n q z : Nat) (w : World) (P : Int) (A : Option Addr) (l : List ItemL) (R : Option Addr) (rls : List RuleL) : Prop := ∀ w', KBn n q z w w' → BookAt w' P A l R rls
theorem CurB.keep {n q z : Nat} {w w1 : World} {P : Int} {A : Option Addr} {l : List ItemL} {R : Option Addr} {rls : List RuleL} (h : CurB n q z w P A l R rls) (hk : KBn n q z w w1) : CurB n q z w1 P A l R rls := fun w' hk2 => h w' (hk.trans hk2)
/-- The two ways in which swapped ends. -/
def SwdC (P : Int) (rls : List RuleL) (s : Int × Int) (its : List ItemL) (base : Nat) (w : World) (A : Option Addr) (n : Nat) (R : Option Addr) (m : Nat) (ok : Bool) : Prop :=
  (ok = false ∧ exTo s its its.length = none) ∨ (ok = true ∧ ∃ l, exTo s its its.length = some l ∧ n = l.length ∧ m = rls.length ∧ ∀ w'', SameAbove base w w'' → BookAt w'' P A l R rls)
theorem SwdC.keep {P : Int} {rls : List RuleL} {s : Int × Int} {its : List ItemL} {base b2 : Nat} {w w' : World} {A : Option Addr} {n : Nat} {R : Option Addr} {m : Nat} {ok : Bool} (h : SwdC P rls s its base w A n R m ok) (hk : SameAbove base w w') (hb : b2 ≤ base) : SwdC P rls s its b2 w' A n R m ok := by
  rcases h with h | ⟨h1, l, h2, h3, h4, h5⟩
  · exact .inl h
  · exact .inr ⟨h1, l, h2, h3, h4, fun w'' hs => h5 w'' (hk.trans (fun b off v hb2 h0 => hs b off v (by omega) h0))⟩
/-- The boxes of exchanged. -/
structure EgB (w0 w : World) (q : Nat) (P : Int) (i r v1 v2 : Value) : Prop where
  b0 : w.cell? ⟨w0.heap.size, 0, none⟩ = some (.int .i64 P)
  b1 : w.cell? ⟨w0.heap.size, 1, none⟩ = some i
  b2 : w.cell? ⟨w0.heap.size, 2, none⟩ = some r
  r0 : w.cell? ⟨w0.heap.size + 1, 0, none⟩ = some (.int .i64 0)
  r1 : w.cell? ⟨w0.heap.size + 1, 1, none⟩ = some (.slice none 0 0)
  r2 : w.cell? ⟨w0.heap.size + 1, 2, none⟩ = some (.slice none 0 0)
  rf : ∀ j, j < 3 → w.frozen? ⟨w0.heap.size + 1, j, none⟩ = false
  c0 : w.cell? ⟨q, 0, none⟩ = some (.int .i64 P)
  c1 : w.cell? ⟨q, 1, none⟩ = some v1
  c2 : w.cell? ⟨q, 2, none⟩ = some v2
  cf : ∀ j, j < 3 → w.frozen? ⟨q, j, none⟩ = false
  hq : w0.heap.size + 2 ≤ q
  bel : Below w0.heap.size w0 w
theorem EgB.below {w0 w w' : World} {q : Nat} {P : Int} {i r v1 v2 : Value} (h : EgB w0 w q P i r v1 v2) (hb : Below w.heap.size w w') : EgB w0 w' q P i r v1 v2 := by
  have hc : ∀ {a : Addr} {u : Value}, w.cell? a = some u → w'.cell? a = some u := fun hu => (hb.cell (cell_lt hu)).trans hu
  have hl := cell_lt h.r0
  have hlq := cell_lt h.c0
  exact ⟨hc h.b0, hc h.b1, hc h.b2, hc h.r0, hc h.r1, hc h.r2, fun j hj => (hb.frozen (p := ⟨w0.heap.size + 1, j, none⟩) hl).trans (h.rf j hj), hc h.c0, hc h.c1, hc h.c2, fun j hj => (hb.frozen (p := ⟨q, j, none⟩) hlq).trans (h.cf j hj), h.hq, h.bel.trans (hb.mono h.bel.size)⟩
theorem EgB.put {w0 w : World} {q : Nat} {P : Int} {i r v1 v2 : Value} (h : EgB w0 w q P i r v1 v2) (u1 u2 : Value) : EgB w0 (((w.setCell ⟨q, 0, none⟩ (.int .i64 P)).setCell ⟨q, 1, none⟩ u1).setCell ⟨q, 2, none⟩ u2) q P i r u1 u2 := by
  obtain ⟨b0, b1, b2, r0, r1, r2, rf, c0, c1, c2, cf, hq, bel⟩ := h
  have f0 := cf 0 (by omega)
  have f1 := cf 1 (by omega)
  have f2 := cf 2 (by omega)
  exact ⟨by go_simp, by go_simp, by go_simp, by go_simp, by go_simp, by go_simp, fun j hj => by have := rf j hj; go_simp, by go_simp, by go_simp, by go_simp, fun j hj => by have := cf j hj; go_simp, hq, ((bel.setCell (p := ⟨q, 0, none⟩) (by dsimp only; omega) _).setCell (p := ⟨q, 1, none⟩) (by dsimp only; omega) _).setCell (p := ⟨q, 2, none⟩) (by dsimp only; omega) _⟩
theorem EgB.fin {w0 w : World} {q : Nat} {P : Int} {i r v1 v2 : Value} (h : EgB w0 w q P i r v1 v2) (x y z : Value) : Below w0.heap.size w0 (((w.setCell ⟨w0.heap.size + 1, 0, none⟩ x).setCell ⟨w0.heap.size + 1, 1, none⟩ y).setCell ⟨w0.heap.size + 1, 2, none⟩ z) :=
  ((h.bel.setCell (by show w0.heap.size ≤ w0.heap.size + 1; omega) _).setCell (by show w0.heap.size ≤ w0.heap.size + 1; omega) _).setCell (by show w0.heap.size ≤ w0.heap.size + 1; omega) _
/-- What exchanged answers. -/
def ExgR (w : World) (P : Int) (ia : Option Addr) (its : List ItemL) (ic : Nat) (ra : Option Addr) (rls : List RuleL) (rc : Nat) (sw : List (Int × Int)) (en : Ending) (w' : World) : Prop :=
  Below w.heap.size w w' ∧ ((exL its sw sw.length = none ∧ en = .returned (.tuple #[.agg #[.int .i64 P, .slice ia its.length ic, .slice ra rls.length rc], .bool false])) ∨
    ∃ l A c R d, exL its sw sw.length = some l ∧ en = .returned (.tuple #[.agg #[.int .i64 P, .slice A l.length c, .slice R rls.length d], .bool true]) ∧ ∀ w'', SameAbove w.heap.size w' w'' → BookAt w'' P A l R rls)
set_option maxRecDepth 100000 in
set_option maxHeartbeats 16000000 in
theorem exchanged_any (P : Int) (ia : Option Addr) (its : List ItemL) (ic : Nat) (ra : Option Addr) (rls : List RuleL) (rc : Nat) (a : Option Addr) (sw : List (Int × Int)) (cap : Nat) (w : World) (h : BookAt w P ia its ra rls) (hv : validB P its rls = 0) (hsw : SwAt w a sw) (hs : swE its.length sw = 0) :
  Calls Try.prog 86 #[.agg #[.int .i64 P, .slice ia its.length ic, .slice ra rls.length rc], .slice a sw.length cap] w (ExgR w P ia its ic ra rls rc sw) := by
  obtain ⟨v0, v1, v2, v3, v4, v5⟩ := validB_ok hv
  obtain ⟨s8, sB⟩ := swE_ok hs
  obtain ⟨w1, hw1⟩ : ∃ w1, (w.alloc (.cells #[.int .i64 P, .slice ia its.length ic, .slice ra rls.length rc] 25)).alloc (.cells #[.int .i64 0, .slice none 0 0, .slice none 0 0] 25) = w1 := ⟨_, rfl⟩
  have hB1 : Below w.heap.size w w1 := by rw [← hw1]; exact ((Below.refl _ _).alloc (Nat.le_refl _) _).alloc (by simp) _
  have a0 : w1.cell? ⟨w.heap.size, 0, none⟩ = some (.int .i64 P) := by rw [← hw1]; clear hw1; go_simp
  have a1 : w1.cell? ⟨w.heap.size, 1, none⟩ = some (.slice ia its.length ic) := by rw [← hw1]; clear hw1; go_simp
  have a2 : w1.cell? ⟨w.heap.size, 2, none⟩ = some (.slice ra rls.length rc) := by rw [← hw1]; clear hw1; go_simp
  have s0 : w1.cell? ⟨w.heap.size + 1, 0, none⟩ = some (.int .i64 0) := by rw [← hw1]; clear hw1; go_simp
  have s1 : w1.cell? ⟨w.heap.size + 1, 1, none⟩ = some (.slice none 0 0) := by rw [← hw1]; clear hw1; go_simp
  have s2 : w1.cell? ⟨w.heap.size + 1, 2, none⟩ = some (.slice none 0 0) := by rw [← hw1]; clear hw1; go_simp
  have sf : ∀ j, j < 3 → w1.frozen? ⟨w.heap.size + 1, j, none⟩ = false := by rw [← hw1]; clear hw1; exact fun j hj => by go_simp
  have hs1 : w1.heap.size = w.heap.size + 2 := by rw [← hw1]; simp
  have HCP := hid (copyBkF_any P ia its ic ra rls rc w1 (h.below hB1) (by omega) (fun i hi => by
    have := itemsE_ok P its 0 v4 i hi
    obtain ⟨p, rfl⟩ := Int.eq_ofNat_of_zero_le v0
    have h2 := isSet_len this.2.2; omega) (by omega) (fun i hi => by
    obtain ⟨p, rfl⟩ := Int.eq_ofNat_of_zero_le v0
    exact (rules_small v5 (by omega) i hi).1))
  have HVx := hid (fun (k : Nat) (l : List ItemL) (hk : k ≤ sw.length) (hl : exL its sw k = some l) => valid_ex hv hk (fun s hs => (sB s hs).2.1) hl)
  have HSA := hid (fun (W : World) (hb : Below w.heap.size w W) => hsw.below hb)
  have HsB := hid sB
  clear h hv hsw hs v4 v5 sB
  go_enter Try.func86, Try.ntmps86
  go_upto_region 1 with (fail)
  clear hw1
  go_wp2_with fail
  refine HCP.out.mono ?_
  rintro e w4 ⟨q4, A, c, R, d, g, mI, rfl, hcf, hlo, hhi⟩
  clear HCP
  obtain ⟨w5, hw5⟩ : ∃ w5, w4.alloc (.cells #[.int .i64 P, .slice A its.length c, .slice R rls.length d] 25) = w5 := ⟨_, rfl⟩
  have h45 : Below w4.heap.size w4 w5 := by rw [← hw5]; exact (Below.refl _ _).alloc (Nat.le_refl _) _
  have hc : ∀ {a : Addr} {u : Value}, w1.cell? a = some u → w5.cell? a = some u := fun hu => by
    have h4 := (q4.cell (cell_lt hu)).trans hu
    exact (h45.cell (cell_lt h4)).trans h4
  have e0 : w5.cell? ⟨w4.heap.size, 0, none⟩ = some (.int .i64 P) := by rw [← hw5]; clear hw5; go_simp
  have e1 : w5.cell? ⟨w4.heap.size, 1, none⟩ = some (.slice A its.length c) := by rw [← hw5]; clear hw5; go_simp
  have e2 : w5.cell? ⟨w4.heap.size, 2, none⟩ = some (.slice R rls.length d) := by rw [← hw5]; clear hw5; go_simp
  have ef : ∀ j, j < 3 → w5.frozen? ⟨w4.heap.size, j, none⟩ = false := by rw [← hw5]; clear hw5; exact fun j hj => by go_simp
  have hsz4 := q4.size
  have hlt3 := cell_lt s0
  have hgl := hcf.glo
  have hgm := hcf.gm
  have hmw := hcf.mw
  have HD := hid (show EgB w w5 w4.heap.size P (.slice ia its.length ic) (.slice ra rls.length rc) (.slice A its.length c) (.slice R rls.length d) from
    ⟨hc a0, hc a1, hc a2, hc s0, hc s1, hc s2, fun j hj => by
      have f3 := sf j hj
      have f4 := (q4.frozen (p := ⟨w.heap.size + 1, j, none⟩) hlt3).trans f3
      exact (h45.frozen (p := ⟨w.heap.size + 1, j, none⟩) (Nat.lt_of_lt_of_le hlt3 hsz4)).trans f4, e0, e1, e2, ef, by omega, (hB1.trans (q4.mono hB1.size)).trans (h45.mono (by omega))⟩)
  have HB := hid (show CurB w.heap.size w4.heap.size (w.heap.size + 1) w5 P A its R rls from fun w'' hk => by
    obtain ⟨A', c', hv, hi⟩ := hcf.items.items (by omega)
    cases hv
    exact ⟨hi w'' (fun b off v hb h0 => hk b off v (by omega) (Nat.ne_of_lt (cell_lt h0)) (by omega) ((h45.cell (p := ⟨b, off, none⟩) (cell_lt h0)).trans h0)), (hcf.rules w'' (fun b off v hb hb2 hg h0 => hk b off v (by omega) (by omega) (by omega) ((h45.cell (p := ⟨b, off, none⟩) (cell_lt h0)).trans h0))).1, hlo, hhi⟩)
  generalize hq : w4.heap.size = q at *
  clear a0 a1 a2 s0 s1 s2 sf hc e0 e1 ef hcf h45 q4 hsz4 hlt3 hB1 hgl hgm hmw hlo hhi
  go_upto_region 3 with (fail)
  clear hw5 e2
  go_loopw [7] (fun i wr => ∃ (k : Nat) (l : List ItemL) (A : Option Addr) (c : Nat) (R : Option Addr) (d : Nat), k ≤ sw.length ∧ i = .int .i64 k ∧ Hid (exL its sw k = some l) ∧ Hid (EgB w wr q P (.slice ia its.length ic) (.slice ra rls.length rc) (.slice A l.length c) (.slice R rls.length d)) ∧ Hid (CurB w.heap.size q (w.heap.size + 1) wr P A l R rls)) (fun i _ => sw.length - (intOf i).toNat)
  case atStart => exact ⟨0, its, A, c, R, d, Nat.zero_le _, rfl, rfl, HD.out, HB.out⟩
  case round =>
    obtain ⟨k, l, A, c, R, d, hk, rfl, HL, HDr, HBr⟩ := hrel
    clear HD HB
    by_cases hlt : k < sw.length
    · rcases (HSA.out _ HDr.out.bel).at_ with e | ⟨b, off, rfl, hcs⟩
      · rw [e] at hlt; simp at hlt
      obtain ⟨t0, t1⟩ := hcs k hlt
      have hk0 : (0 : Int) ≤ (k : Int) := by omega
      have hk1 : (k : Int) < (sw.length : Int) := by omega
      have hvl := HVx.out k l hk HL.out
      have hsb := HsB.out (sw[k]?.getD (0, 0)) (by rw [List.getElem?_eq_getElem hlt]; exact List.getElem_mem _)
      rw [← exL_len HL.out] at hsb
      have HSw := hid (show sw[k]?.getD (0, 0) = ((sw[k]?.getD (0, 0)).1, (sw[k]?.getD (0, 0)).2) from rfl)
      clear hcs
      generalize hs1 : (sw[k]?.getD (0, 0)).1 = sx at *
      generalize hs2 : (sw[k]?.getD (0, 0)).2 = sy at *
      clear hs1 hs2
      have hr0 : Below wr.heap.size wr wr := Below.refl _ _
      obtain ⟨_, _, _, _, _, _, _, c0, c1, c2, _, hq2, bel⟩ := id HDr.out
      have HKs := hid (fun (W : World) (hb : Below wr.heap.size wr W) => show W.cell? ⟨q, 0, none⟩ = some (.int .i64 P) ∧ W.cell? ⟨q, 1, none⟩ = some (.slice A l.length c) ∧ W.cell? ⟨q, 2, none⟩ = some (.slice R rls.length d) ∧ W.cell? ⟨b, off + k * 2, none⟩ = some (.int .i64 sx) ∧ W.cell? ⟨b, off + k * 2 + 1, none⟩ = some (.int .i64 sy) from
        ⟨(hb.cell (cell_lt c0)).trans c0, (hb.cell (cell_lt c1)).trans c1, (hb.cell (cell_lt c2)).trans c2, (hb.cell (cell_lt t0)).trans t0, (hb.cell (cell_lt t1)).trans t1⟩)
      have HSwd := hid (fun (W : World) (hb : Below wr.heap.size wr W) => (swapped_any P A l c R rls d sx sy W (HBr.out W (KBn.below hb)) hvl hsb).mono (fun en w' hh => (show Below W.heap.size W w' ∧ Below wr.heap.size wr w' ∧ ∃ A2 n2 c2 R2 m2 d2 ok, en = .returned (.tuple #[.agg #[.int .i64 P, .slice A2 n2 c2, .slice R2 m2 d2], .bool ok]) ∧ Hid (SwdC P rls (sx, sy) l W.heap.size w' A2 n2 R2 m2 ok) from by
        refine ⟨hh.1, hb.trans (hh.1.mono hb.size), ?_⟩
        rcases hh.2 with ⟨hn, he⟩ | ⟨l2, A2, c2, R2, d2, hl2, he, hB2⟩
        · exact ⟨_, _, _, _, _, _, _, he, .inl ⟨rfl, hn⟩⟩
        · exact ⟨_, _, _, _, _, _, _, he, .inr ⟨rfl, l2, hl2, rfl, rfl, hB2⟩⟩)))
      have H1 := hid ((HSwd.out _ hr0.drew).mono (fun en w5 hh => hh.2))
      have x0 : ((wr.alloc (.cells #[.int .i64 0, .slice none 0 0, .slice none 0 0] 25)).drew).cell? ⟨wr.heap.size, 0, none⟩ = some (.int .i64 0) := by go_simp
      have x1 : ((wr.alloc (.cells #[.int .i64 0, .slice none 0 0, .slice none 0 0] 25)).drew).cell? ⟨wr.heap.size, 1, none⟩ = some (.slice none 0 0) := by go_simp
      have x2 : ((wr.alloc (.cells #[.int .i64 0, .slice none 0 0, .slice none 0 0] 25)).drew).cell? ⟨wr.heap.size, 2, none⟩ = some (.slice none 0 0) := by go_simp
      have f0 : ((wr.alloc (.cells #[.int .i64 0, .slice none 0 0, .slice none 0 0] 25)).drew).frozen? ⟨wr.heap.size, 0, none⟩ = false := by go_simp
      have f1 : ((wr.alloc (.cells #[.int .i64 0, .slice none 0 0, .slice none 0 0] 25)).drew).frozen? ⟨wr.heap.size, 1, none⟩ = false := by go_simp
      have f2 : ((wr.alloc (.cells #[.int .i64 0, .slice none 0 0, .slice none 0 0] 25)).drew).frozen? ⟨wr.heap.size, 2, none⟩ = false := by go_simp
      have H2 := hid ((HSwd.out _ (hr0.alloc hr0.size (.cells #[.int .i64 0, .slice none 0 0, .slice none 0 0] 25)).drew).mono (fun en w5 hh => And.intro (And.intro ((hh.1.cell (cell_lt x0)).trans x0) (And.intro ((hh.1.cell (cell_lt x1)).trans x1) (And.intro ((hh.1.cell (cell_lt x2)).trans x2) (And.intro ((hh.1.frozen (cell_lt x0)).trans f0) (And.intro ((hh.1.frozen (cell_lt x1)).trans f1) ((hh.1.frozen (cell_lt x2)).trans f2)))))) hh.2))
      simp only [World.size_drew, World.size_alloc] at H1 H2
      clear x0 x1 x2 f0 f1 f2 c0 c1 c2 HSwd t0 t1 hvl
      go_upto_region 5 with (fail)
      refine wp_region_held_drew (S := (fun w' => w'.cell? ⟨q, 0, none⟩ = some (.int .i64 P) ∧ w'.cell? ⟨q, 1, none⟩ = some (.slice A l.length c) ∧ w'.cell? ⟨q, 2, none⟩ = some (.slice R rls.length d) ∧ w'.cell? ⟨b, off + k * 2, none⟩ = some (.int .i64 sx) ∧ w'.cell? ⟨b, off + k * 2 + 1, none⟩ = some (.int .i64 sy))) (by kernel_rfl) (HKs.out _ hr0.drew) (fun hHeld => ?_)
      refine take_d (i := 0) (d := some 19) (v := ?_) rfl rfl (by kernel_rfl) (by kernel_rfl) (by kernel_rfl) (fun _ _ _ h => h) (Or.inl ⟨by first | rfl | (simp [*, Region.wanted, yielded]), ?hyp1⟩) (by assumption) ?restp1
      case hyp1 => (intro w hSw; (try dsimp only at hSw); go_simp <;> with_reducible rfl)
      try simp only [Act.put, List.setIfInBounds_toArray, List.set_cons_zero, List.set_cons_succ]
      refine take_d (i := 1) (d := some 20) (v := ?_) rfl rfl (by kernel_rfl) (by kernel_rfl) (by kernel_rfl) (fun _ _ _ h => h) (Or.inl ⟨by first | rfl | (simp [*, Region.wanted, yielded]), ?hyp2⟩) (by assumption) ?restp2
      case hyp2 => (intro w hSw; (try dsimp only at hSw); go_simp <;> with_reducible rfl)
      try simp only [Act.put, List.setIfInBounds_toArray, List.set_cons_zero, List.set_cons_succ]
      refine take_d (i := 2) (d := some 21) (v := ?_) rfl rfl (by kernel_rfl) (by kernel_rfl) (by kernel_rfl) (fun _ _ _ h => h) (Or.inl ⟨by first | rfl | (simp [*, Region.wanted, yielded]), ?hyp3⟩) (by assumption) ?restp3
      case hyp3 => (intro w hSw; (try dsimp only at hSw); go_simp <;> with_reducible rfl)
      try simp only [Act.put, List.setIfInBounds_toArray, List.set_cons_zero, List.set_cons_succ]
      refine take_d (i := 3) (d := some 22) (v := ?_) rfl rfl (by kernel_rfl) (by kernel_rfl) (by kernel_rfl) (fun _ _ _ h => h) (Or.inl ⟨by first | rfl | (simp [*, Region.wanted, yielded]), ?hyp4⟩) (by assumption) ?restp4
      case hyp4 => (intro w hSw; (try dsimp only at hSw); go_simp <;> with_reducible rfl)
      try simp only [Act.put, List.setIfInBounds_toArray, List.set_cons_zero, List.set_cons_succ]
      refine take_d (i := 4) (d := some 23) (v := ?_) rfl rfl (by kernel_rfl) (by kernel_rfl) (by kernel_rfl) (fun _ _ _ h => h) (Or.inl ⟨by first | rfl | (simp [*, Region.wanted, yielded]), ?hyp5⟩) (by assumption) ?restp5
      case hyp5 => (intro w hSw; (try dsimp only at hSw); go_simp <;> with_reducible rfl)
      try simp only [Act.put, List.setIfInBounds_toArray, List.set_cons_zero, List.set_cons_succ]
      refine wpAnyH_ready (rs := [5, 9]) (by kernel_rfl) (by simp) ?_
      refine AllReadyH.cons (o := _) rfl (fun K hK => ?_) (AllReadyH.cons (o := _) rfl (fun K hK => ?_) AllReadyH.nil)
      · go_simp
        refine H1.out.mono ?_
        rintro e5 w5 ⟨p5, A2, n2, c2, R2, m2, d2, ok, rfl, HCase⟩
        go_wp2_with fail
        refine hK.out _ _ (HKs.out _ (by repeat (first | exact hr0 | exact p5 | apply Below.drew | (refine Below.alloc ?_ (by first | exact Below.size (by assumption) | omega | (simp; done) | (simp; omega)) _) | (refine Below.setCell ?_ (by first | exact Below.size (by assumption) | omega | (simp; done) | (simp; omega)) _)))) (fun hHeld => ?_)
        clear hK K
        try simp only [Act.put, List.setIfInBounds_toArray, List.set_cons_zero, List.set_cons_succ]
        refine take_d (i := 6) (d := some 18) (v := ?_) rfl rfl (by kernel_rfl) (by kernel_rfl) (by kernel_rfl) (fun _ _ _ h => h) (Or.inl ⟨by first | rfl | (simp [*, Region.wanted, yielded]), ?hyp6⟩) (by assumption) ?restp6
        case hyp6 => (intro w hSw; (try dsimp only at hSw); go_simp <;> with_reducible rfl)
        try simp only [Act.put, List.setIfInBounds_toArray, List.set_cons_zero, List.set_cons_succ]
        refine take_d (i := 7) (d := some 25) (v := ?_) rfl rfl (by kernel_rfl) (by kernel_rfl) (by kernel_rfl) (fun _ _ _ h => h) (Or.inl ⟨by first | rfl | (simp [*, Region.wanted, yielded]), ?hyp7⟩) (by assumption) ?restp7
        case hyp7 => (intro w hSw; (try dsimp only at hSw); go_simp <;> with_reducible rfl)
        try simp only [Act.put, List.setIfInBounds_toArray, List.set_cons_zero, List.set_cons_succ]
        refine take_d (i := 8) (d := some 26) (v := ?_) rfl rfl (by kernel_rfl) (by kernel_rfl) (by kernel_rfl) (fun _ _ _ h => h) (Or.inl ⟨by first | rfl | (simp [*, Region.wanted, yielded]), ?hyp8⟩) (by assumption) ?restp8
        case hyp8 => (intro w hSw; (try dsimp only at hSw); go_simp <;> with_reducible rfl)
        try simp only [Act.put, List.setIfInBounds_toArray, List.set_cons_zero, List.set_cons_succ]
        refine wpAnyH_ready (rs := [9]) (by kernel_rfl) (by simp) ?_
        refine AllReadyH.cons (o := _) rfl (fun K hK => ?_) AllReadyH.nil
        go_simp
        go_wp2_with fail
        refine hK.out _ _ (HKs.out _ (by repeat (first | exact hr0 | exact p5 | apply Below.drew | (refine Below.alloc ?_ (by first | exact Below.size (by assumption) | omega | (simp; done) | (simp; omega)) _) | (refine Below.setCell ?_ (by first | exact Below.size (by assumption) | omega | (simp; done) | (simp; omega)) _)))) (fun hHeld => ?_)
        clear hK K
        try simp only [Act.put, List.setIfInBounds_toArray, List.set_cons_zero, List.set_cons_succ]
        refine wpAnyH_ready (rs := [10]) (by kernel_rfl) (by simp) ?_
        refine AllReadyH.cons (o := _) rfl (fun K hK => ?_) AllReadyH.nil
        go_simp
        go_wp2_with fail
        refine hK.out _ _ (HKs.out _ (by repeat (first | exact hr0 | exact p5 | apply Below.drew | (refine Below.alloc ?_ (by first | exact Below.size (by assumption) | omega | (simp; done) | (simp; omega)) _) | (refine Below.setCell ?_ (by first | exact Below.size (by assumption) | omega | (simp; done) | (simp; omega)) _)))) (fun hHeld => ?_)
        clear hK K
        try simp only [Act.put, List.setIfInBounds_toArray, List.set_cons_zero, List.set_cons_succ]
        refine take_d (i := 11) (d := some 9) (v := ?_) rfl rfl (by kernel_rfl) (by kernel_rfl) (by kernel_rfl) (fun _ _ _ h => h) (Or.inl ⟨by first | rfl | (simp [*, Region.wanted, yielded]), ?hyp9⟩) (by assumption) ?restp9
        case hyp9 => (intro w hSw; (try dsimp only at hSw); go_simp <;> with_reducible rfl)
        try simp only [Act.put, List.setIfInBounds_toArray, List.set_cons_zero, List.set_cons_succ]
        refine wpAnyH_done (by kernel_rfl) ?_ _
        go_simp
        obtain ⟨w8, hw8⟩ : ∃ w8, w5.alloc (.cells #[.int .i64 P, .slice A2 n2 c2, .slice R2 m2 d2] 25) = w8 := ⟨_, rfl⟩
        have p8 : Below wr.heap.size wr w8 := by rw [← hw8]; exact p5.alloc p5.size _
        have x0 : w8.cell? ⟨w5.heap.size, 0, none⟩ = some (.int .i64 P) := by rw [← hw8]; clear hw8; go_simp
        have x1 : w8.cell? ⟨w5.heap.size, 1, none⟩ = some (.slice A2 n2 c2) := by rw [← hw8]; clear hw8; go_simp
        have x2 : w8.cell? ⟨w5.heap.size, 2, none⟩ = some (.slice R2 m2 d2) := by rw [← hw8]; clear hw8; go_simp
        have HC8 := hid (show SwdC P rls (sx, sy) l wr.heap.size w8 A2 n2 R2 m2 ok from SwdC.keep HCase.out (fun b off v hb h0 => by rw [← hw8, World.cell?_alloc_lt _ _ _ (cell_lt h0)]; exact h0) (Nat.le_refl _))
        clear HCase p5
        generalize ho8 : w5.heap.size = o8 at x0 x1 x2
        have HX := hid (And.intro x0 (And.intro x1 x2))
        clear x0 x1 x2
        first | rw [hw8] | (rw [ho8] at hw8; rw [hw8])
        try rw [ho8]
        clear hw8 ho8
        have HD8 := hid (HDr.out.below p8)
        have hqw : q < wr.heap.size := cell_lt HDr.out.c0
        have hzw : w.heap.size + 1 < wr.heap.size := cell_lt HDr.out.r0
        rcases HC8.out with ⟨rfl, hn⟩ | ⟨rfl, l2, hl2, rfl, rfl, hB2⟩
        · have HN := hid (exL_none (its := its) (sw := sw) (k := k + 1) (by rw [exL, HL.out, Option.bind_some, HSw.out]; exact hn) sw.length (by omega))
          obtain ⟨b0, b1, b2, r0, r1, r2, rf, _⟩ := id HD8.out
          have f0 := rf 0 (by omega)
          have f1 := rf 1 (by omega)
          have f2 := rf 2 (by omega)
          clear rf hn HC8 HX
          go_wp2
          refine bodyPost_ret (v := .tuple #[.agg #[.int .i64 P, .slice ia its.length ic, .slice ra rls.length rc], .bool false]) (by simp [results, Try.results86, go_sem, r0, r1, r2]) rfl ⟨HD8.out.fin _ _ _, .inl ⟨HN.out, rfl⟩⟩
        · have HN := hid (show exL its sw (k + 1) = some l2 by rw [exL, HL.out, Option.bind_some, HSw.out]; exact hl2)
          obtain ⟨x0, x1, x2⟩ := HX.out
          obtain ⟨_, _, _, _, _, _, _, c0, c1, c2', cf, _⟩ := id HD8.out
          have f0 := cf 0 (by omega)
          have f1 := cf 1 (by omega)
          have f2 := cf 2 (by omega)
          have HDn := hid (HD8.out.put (.slice A2 l2.length c2) (.slice R2 rls.length d2))
          have HBn := hid (show CurB w.heap.size q (w.heap.size + 1) (((w8.setCell ⟨q, 0, none⟩ (.int .i64 P)).setCell ⟨q, 1, none⟩ (.slice A2 l2.length c2)).setCell ⟨q, 2, none⟩ (.slice R2 rls.length d2)) P A2 l2 R2 rls from fun w'' hk => hB2 w'' (fun b off v hb h0 => hk b off v (by omega) (by omega) (by omega) (by rw [World.cell?_setCell_far _ _ _ _ (by dsimp only; omega), World.cell?_setCell_far _ _ _ _ (by dsimp only; omega), World.cell?_setCell_far _ _ _ _ (by dsimp only; omega)]; exact h0)))
          clear cf hl2 hB2 HC8 HX HD8
          go_wp2
          go_roundw
          case rel => exact ⟨k + 1, l2, A2, c2, R2, d2, by omega, by go_num, HN.out, HDn.out, HBn.out⟩
          case measure => simp [intOf]; omega
      · go_simp
        go_wp2_with fail
        refine hK.out _ _ (HKs.out _ (by repeat (first | exact hr0 | exact p5 | apply Below.drew | (refine Below.alloc ?_ (by first | exact Below.size (by assumption) | omega | (simp; done) | (simp; omega)) _) | (refine Below.setCell ?_ (by first | exact Below.size (by assumption) | omega | (simp; done) | (simp; omega)) _)))) (fun hHeld => ?_)
        clear hK K
        try simp only [Act.put, List.setIfInBounds_toArray, List.set_cons_zero, List.set_cons_succ]
        refine wpAnyH_ready (rs := [5]) (by kernel_rfl) (by simp) ?_
        refine AllReadyH.cons (o := _) rfl (fun K hK => ?_) AllReadyH.nil
        go_simp
        refine H2.out.mono ?_
        rintro e5 w5 ⟨⟨z0, z1, z2, g0, g1, g2⟩, p5, A2, n2, c2, R2, m2, d2, ok, rfl, HCase⟩
        go_wp2_with fail
        refine hK.out _ _ (HKs.out _ (by repeat (first | exact hr0 | exact p5 | apply Below.drew | (refine Below.alloc ?_ (by first | exact Below.size (by assumption) | omega | (simp; done) | (simp; omega)) _) | (refine Below.setCell ?_ (by first | exact Below.size (by assumption) | omega | (simp; done) | (simp; omega)) _)))) (fun hHeld => ?_)
        clear hK K
        try simp only [Act.put, List.setIfInBounds_toArray, List.set_cons_zero, List.set_cons_succ]
        refine take_d (i := 6) (d := some 18) (v := ?_) rfl rfl (by kernel_rfl) (by kernel_rfl) (by kernel_rfl) (fun _ _ _ h => h) (Or.inl ⟨by first | rfl | (simp [*, Region.wanted, yielded]), ?hyp10⟩) (by assumption) ?restp10
        case hyp10 => (intro w hSw; (try dsimp only at hSw); go_simp <;> with_reducible rfl)
        try simp only [Act.put, List.setIfInBounds_toArray, List.set_cons_zero, List.set_cons_succ]
        refine take_d (i := 7) (d := some 25) (v := ?_) rfl rfl (by kernel_rfl) (by kernel_rfl) (by kernel_rfl) (fun _ _ _ h => h) (Or.inl ⟨by first | rfl | (simp [*, Region.wanted, yielded]), ?hyp11⟩) (by assumption) ?restp11
        case hyp11 => (intro w hSw; (try dsimp only at hSw); go_simp <;> with_reducible rfl)
        try simp only [Act.put, List.setIfInBounds_toArray, List.set_cons_zero, List.set_cons_succ]
        refine take_d (i := 8) (d := some 26) (v := ?_) rfl rfl (by kernel_rfl) (by kernel_rfl) (by kernel_rfl) (fun _ _ _ h => h) (Or.inl ⟨by first | rfl | (simp [*, Region.wanted, yielded]), ?hyp12⟩) (by assumption) ?restp12
        case hyp12 => (intro w hSw; (try dsimp only at hSw); go_simp <;> with_reducible rfl)
        try simp only [Act.put, List.setIfInBounds_toArray, List.set_cons_zero, List.set_cons_succ]
        refine wpAnyH_ready (rs := [10]) (by kernel_rfl) (by simp) ?_
        refine AllReadyH.cons (o := _) rfl (fun K hK => ?_) AllReadyH.nil
        go_simp
        go_wp2_with fail
        refine hK.out _ _ (HKs.out _ (by repeat (first | exact hr0 | exact p5 | apply Below.drew | (refine Below.alloc ?_ (by first | exact Below.size (by assumption) | omega | (simp; done) | (simp; omega)) _) | (refine Below.setCell ?_ (by first | exact Below.size (by assumption) | omega | (simp; done) | (simp; omega)) _)))) (fun hHeld => ?_)
        clear hK K
        try simp only [Act.put, List.setIfInBounds_toArray, List.set_cons_zero, List.set_cons_succ]
        refine take_d (i := 11) (d := some 9) (v := ?_) rfl rfl (by kernel_rfl) (by kernel_rfl) (by kernel_rfl) (fun _ _ _ h => h) (Or.inl ⟨by first | rfl | (simp [*, Region.wanted, yielded]), ?hyp13⟩) (by assumption) ?restp13
        case hyp13 => (intro w hSw; (try dsimp only at hSw); go_simp <;> with_reducible rfl)
        try simp only [Act.put, List.setIfInBounds_toArray, List.set_cons_zero, List.set_cons_succ]
        refine wpAnyH_done (by kernel_rfl) ?_ _
        go_simp
        obtain ⟨w8, hw8⟩ : ∃ w8, ((w5.setCell ⟨wr.heap.size, 0, none⟩ (.int .i64 P)).setCell ⟨wr.heap.size, 1, none⟩ (.slice A2 n2 c2)).setCell ⟨wr.heap.size, 2, none⟩ (.slice R2 m2 d2) = w8 := ⟨_, rfl⟩
        have p8 : Below wr.heap.size wr w8 := by rw [← hw8]; exact ((p5.setCell (p := ⟨wr.heap.size, 0, none⟩) (Nat.le_refl _) _).setCell (p := ⟨wr.heap.size, 1, none⟩) (Nat.le_refl _) _).setCell (p := ⟨wr.heap.size, 2, none⟩) (Nat.le_refl _) _
        have x0 : w8.cell? ⟨wr.heap.size, 0, none⟩ = some (.int .i64 P) := by rw [← hw8]; clear hw8; go_simp
        have x1 : w8.cell? ⟨wr.heap.size, 1, none⟩ = some (.slice A2 n2 c2) := by rw [← hw8]; clear hw8; go_simp
        have x2 : w8.cell? ⟨wr.heap.size, 2, none⟩ = some (.slice R2 m2 d2) := by rw [← hw8]; clear hw8; go_simp
        have HC8 := hid (show SwdC P rls (sx, sy) l wr.heap.size w8 A2 n2 R2 m2 ok from SwdC.keep HCase.out (fun b off v hb h0 => by rw [← hw8, World.cell?_setCell_far _ _ _ _ (by dsimp only; omega), World.cell?_setCell_far _ _ _ _ (by dsimp only; omega), World.cell?_setCell_far _ _ _ _ (by dsimp only; omega)]; exact h0) (Nat.le_succ _))
        clear z0 z1 z2 g0 g1 g2 HCase p5
        generalize ho8 : wr.heap.size = o8 at x0 x1 x2
        have HX := hid (And.intro x0 (And.intro x1 x2))
        clear x0 x1 x2
        first | rw [hw8] | (rw [ho8] at hw8; rw [hw8])
        try rw [ho8]
        clear hw8 ho8
        have HD8 := hid (HDr.out.below p8)
        have hqw : q < wr.heap.size := cell_lt HDr.out.c0
        have hzw : w.heap.size + 1 < wr.heap.size := cell_lt HDr.out.r0
        rcases HC8.out with ⟨rfl, hn⟩ | ⟨rfl, l2, hl2, rfl, rfl, hB2⟩
        · have HN := hid (exL_none (its := its) (sw := sw) (k := k + 1) (by rw [exL, HL.out, Option.bind_some, HSw.out]; exact hn) sw.length (by omega))
          obtain ⟨b0, b1, b2, r0, r1, r2, rf, _⟩ := id HD8.out
          have f0 := rf 0 (by omega)
          have f1 := rf 1 (by omega)
          have f2 := rf 2 (by omega)
          clear rf hn HC8 HX
          go_wp2
          refine bodyPost_ret (v := .tuple #[.agg #[.int .i64 P, .slice ia its.length ic, .slice ra rls.length rc], .bool false]) (by simp [results, Try.results86, go_sem, r0, r1, r2]) rfl ⟨HD8.out.fin _ _ _, .inl ⟨HN.out, rfl⟩⟩
        · have HN := hid (show exL its sw (k + 1) = some l2 by rw [exL, HL.out, Option.bind_some, HSw.out]; exact hl2)
          obtain ⟨x0, x1, x2⟩ := HX.out
          obtain ⟨_, _, _, _, _, _, _, c0, c1, c2', cf, _⟩ := id HD8.out
          have f0 := cf 0 (by omega)
          have f1 := cf 1 (by omega)
          have f2 := cf 2 (by omega)
          have HDn := hid (HD8.out.put (.slice A2 l2.length c2) (.slice R2 rls.length d2))
          have HBn := hid (show CurB w.heap.size q (w.heap.size + 1) (((w8.setCell ⟨q, 0, none⟩ (.int .i64 P)).setCell ⟨q, 1, none⟩ (.slice A2 l2.length c2)).setCell ⟨q, 2, none⟩ (.slice R2 rls.length d2)) P A2 l2 R2 rls from fun w'' hk => hB2 w'' (fun b off v hb h0 => hk b off v (by omega) (by omega) (by omega) (by rw [World.cell?_setCell_far _ _ _ _ (by dsimp only; omega), World.cell?_setCell_far _ _ _ _ (by dsimp only; omega), World.cell?_setCell_far _ _ _ _ (by dsimp only; omega)]; exact h0)))
          clear cf hl2 hB2 HC8 HX HD8
          go_wp2
          go_roundw
          case rel => exact ⟨k + 1, l2, A2, c2, R2, d2, by omega, by go_num, HN.out, HDn.out, HBn.out⟩
          case measure => simp [intOf]; omega
    · obtain rfl : k = sw.length := by omega
      obtain ⟨_, _, _, r0, r1, r2, rf, c0, c1, c2, _, _, bel⟩ := HDr.out
      have f0 := rf 0 (by omega)
      have f1 := rf 1 (by omega)
      have f2 := rf 2 (by omega)
      have HKf := hid (fun (u0 u1 u2 : Value) => (((KBn.setCell w.heap.size q (w.heap.size + 1) wr ⟨w.heap.size + 1, 0, none⟩ u0 (.inr rfl)).trans (KBn.setCell w.heap.size q (w.heap.size + 1) _ ⟨w.heap.size + 1, 1, none⟩ u1 (.inr rfl))).trans (KBn.setCell w.heap.size q (w.heap.size + 1) _ ⟨w.heap.size + 1, 2, none⟩ u2 (.inr rfl))))
      clear rf bel
      go_wp2
      refine bodyPost_ret (v := .tuple #[.agg #[.int .i64 P, .slice A l.length c, .slice R rls.length d], .bool true]) (by simp [results, Try.results86, go_sem, r0, r1, r2]) rfl ⟨HDr.out.fin _ _ _, .inr ⟨l, A, c, R, d, HL.out, rfl, fun w'' hs => HBr.out w'' ((HKf.out _ _ _).trans (fun b off v hb _ _ h0 => hs b off v hb h0))⟩⟩
end Go.Proofs.Ytdgleicpcjfnoaa
