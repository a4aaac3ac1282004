/- The program's Exchange. -/
import Derived.Test.YtdgleicpcjfnoaaCopyO
import Derived.Test.YtdgleicpcjfnoaaSetO
import Derived.Test.YtdgleicpcjfnoaaSwapR
import Derived.Test.YtdgleicpcjfnoaaReduP
import Derived.StillTailTactics
/- The program's exchange (written by gen_exch.py). -/
set_option linter.unusedVariables false
set_option linter.unusedSimpArgs false
namespace Go.Proofs.Ytdgleicpcjfnoaa
open Go.RowKit

/-- The box of a swap. -/
structure SwX (w : World) (o : Nat) (s : Int × Int) : Prop where
  c0 : w.cell? ⟨o, 0, none⟩ = some (.int .i64 s.1)
  c1 : w.cell? ⟨o, 1, none⟩ = some (.int .i64 s.2)
  ty : ∃ cur fr, w.heap[o]? = some (.cells cur 71 fr)
theorem SwX.below {w w' : World} {o : Nat} {s : Int × Int} (h : SwX w o s) (hb : Below w.heap.size w w') : SwX w' o s := by
  obtain ⟨cur, fr, e⟩ := h.ty
  have hl := cell_lt h.c0
  exact ⟨(hb.cell (cell_lt h.c0)).trans h.c0, (hb.cell (cell_lt h.c1)).trans h.c1, cur, fr, by rw [hb.block o hl]; exact e⟩
theorem SwX.put {w : World} {o : Nat} {s : Int × Int} (h : SwX w o s) (p : Addr) (u : Value) (hp : p.block ≠ o) : SwX (w.setCell p u) o s := by
  obtain ⟨cur, fr, e⟩ := h.ty
  exact ⟨by rw [World.cell?_setCell_far _ _ _ _ (by dsimp only; omega)]; exact h.c0, by rw [World.cell?_setCell_far _ _ _ _ (by dsimp only; omega)]; exact h.c1, cur, fr, by rw [heap_setCell_other w p o u (by omega)]; exact e⟩
theorem SwX.made (w : World) (s : Int × Int) : SwX (w.alloc (.cells #[.int .i64 s.1, .int .i64 s.2] 71)) w.heap.size s := ⟨by go_simp, by go_simp, _, _, heap_alloc_new _ _⟩
theorem Own.notTy {w : World} {base : Nat} {xs : List Int} {g n c o : Nat} {t : TypeId} (h : Own w base (.slice (some ⟨g, 0, none⟩) n c) xs) (hb : ∃ cur fr, w.heap[o]? = some (.cells cur t fr)) (hne : 3 ≠ t) : g ≠ o := by
  obtain ⟨cur, fr, e2⟩ := hb
  exact fun e => own_box h e2 hne (by rw [← e]; rfl)
theorem RowO.notTy {w : World} {base : Nat} {e t : TypeId} {cs : List (List Int ⊕ Int)} {n G c o : Nat} (h : RowO w base e cs n (.slice (some ⟨G, 0, none⟩) n c)) (hb : ∃ cur fr, w.heap[o]? = some (.cells cur t fr)) (hne : e ≠ t) : G ≠ o := by
  obtain ⟨cl, h1, _⟩ := h
  obtain ⟨cur, fr, e2⟩ := hb
  exact fun e => own_box h1 e2 hne (by rw [← e]; rfl)
theorem RowO.frzO {w : World} {base : Nat} {e : TypeId} {cs : List (List Int ⊕ Int)} {n G c : Nat} (h : RowO w base e cs n (.slice (some ⟨G, 0, none⟩) n c)) (j : Nat) : w.frozen? ⟨G, j, none⟩ = false := by
  obtain ⟨cl, h1, _⟩ := h
  exact h1.frozenAt j
theorem RdB.keepSet {w0 w : World} {q : Nat} {P : Int} {i r v1 v2 : Value} (h : RdB w0 w q P i r v1 v2) (p : Addr) (u : Value) (hp : w0.heap.size + 2 ≤ p.block) (hq2 : p.block ≠ q) : RdB w0 (w.setCell p u) q P i r v1 v2 := by
  obtain ⟨b0, b1, b2, r0, r1, r2, rf, c0, c1, c2, cf, ⟨cur, fr, cq⟩, hq, bel⟩ := h
  have far : ∀ {a : Addr} {x : Value}, a.block ≠ p.block → w.cell? a = some x → (w.setCell p u).cell? a = some x := fun hne hx => by rw [World.cell?_setCell_far _ _ _ _ (fun e => hne e.symm)]; exact hx
  exact ⟨far (by dsimp only; omega) b0, far (by dsimp only; omega) b1, far (by dsimp only; omega) b2, far (by dsimp only; omega) r0, far (by dsimp only; omega) r1, far (by dsimp only; omega) r2, fun j hj => by have := rf j hj; go_simp, far (by dsimp only; omega) c0, far (by dsimp only; omega) c1, far (by dsimp only; omega) c2, by go_simp, ⟨cur, fr, by rw [heap_setCell_other w p q u (by omega)]; exact cq⟩, hq, bel.setCell (by omega) _⟩
/-- What exchange answers. -/
def ExR (w : World) (P : Int) (its : List ItemL) (rls : List RuleL) (sw : List (Int × Int)) (en : Ending) (w' : World) : Prop :=
  Below w.heap.size w w' ∧ ((exL its sw sw.length = none ∧ en = .returned (.tuple #[.agg #[.int .i64 0, .slice none 0 0, .slice none 0 0], .int .i64 7])) ∨
    ∃ l A c R d, exL its sw sw.length = some l ∧ en = .returned (.tuple #[.agg #[.int .i64 P, .slice A its.length c, .slice R rls.length d], .int .i64 0]) ∧ BookO w' w.heap.size (csI l) (csR rls) its.length rls.length (.slice A its.length c) (.slice R rls.length d))
set_option maxRecDepth 100000 in
set_option maxHeartbeats 16000000 in
theorem exchange_any (P : Int) (ia : Option Addr) (its : List ItemL) (ic : Nat) (ra : Option Addr) (rls : List RuleL) (rc : Nat) (a : Option Addr) (sw : List (Int × Int)) (cap : Nat) (w : World) (h : BookAt w P ia its ra rls) (hv : validB P its rls = 0) (hsw : SwAt w a sw) (hs : swE its.length sw = 0) :
  Calls Try.prog 84 #[.agg #[.int .i64 P, .slice ia its.length ic, .slice ra rls.length rc], .slice a sw.length cap] w (ExR w P its rls sw) := by
  obtain ⟨v0, v1, v2, v3, v4, v5⟩ := validB_ok hv
  obtain ⟨s8, sB⟩ := swE_ok hs
  obtain ⟨w1, hw1⟩ : ∃ w1, (w.alloc (.cells #[.int .i64 P, .slice ia its.length ic, .slice ra rls.length rc] 25)).alloc (.cells #[.int .i64 0, .slice none 0 0, .slice none 0 0] 25) = w1 := ⟨_, rfl⟩
  have hB1 : Below w.heap.size w w1 := by rw [← hw1]; exact ((Below.refl _ _).alloc (Nat.le_refl _) _).alloc (by simp) _
  have a0 : w1.cell? ⟨w.heap.size, 0, none⟩ = some (.int .i64 P) := by rw [← hw1]; clear hw1; go_simp
  have a1 : w1.cell? ⟨w.heap.size, 1, none⟩ = some (.slice ia its.length ic) := by rw [← hw1]; clear hw1; go_simp
  have a2 : w1.cell? ⟨w.heap.size, 2, none⟩ = some (.slice ra rls.length rc) := by rw [← hw1]; clear hw1; go_simp
  have s0 : w1.cell? ⟨w.heap.size + 1, 0, none⟩ = some (.int .i64 0) := by rw [← hw1]; clear hw1; go_simp
  have s1 : w1.cell? ⟨w.heap.size + 1, 1, none⟩ = some (.slice none 0 0) := by rw [← hw1]; clear hw1; go_simp
  have s2 : w1.cell? ⟨w.heap.size + 1, 2, none⟩ = some (.slice none 0 0) := by rw [← hw1]; clear hw1; go_simp
  have sf : ∀ j, j < 3 → w1.frozen? ⟨w.heap.size + 1, j, none⟩ = false := by rw [← hw1]; clear hw1; exact fun j hj => by go_simp
  have hs1 : w1.heap.size = w.heap.size + 2 := by rw [← hw1]; simp
  have HCP := hid (copyOfU_any P ia its ic ra rls rc w1 (h.below hB1) (by omega) (fun i hi => by
    have := itemsE_ok P its 0 v4 i hi
    obtain ⟨p, rfl⟩ := Int.eq_ofNat_of_zero_le v0
    have h2 := isSet_len this.2.2; omega) (by omega) (fun i hi => by
    obtain ⟨p, rfl⟩ := Int.eq_ofNat_of_zero_le v0
    exact (rules_small v5 (by omega) i hi).1))
  have HIt := hid (fun (k : Nat) (hk : k ≤ sw.length) (l : List ItemL) (hl : exL its sw k = some l) => exL_ok (P := P) hk (by omega) (fun s hs => (sB s hs).2.1) ((itOk_iff P its).1 v4) hl)
  have HSA := hid (fun (W : World) (hb : Below w.heap.size w W) => hsw.below hb)
  have HsB := hid sB
  clear h hv hsw hs v4 v5 sB
  go_enter Try.func84, Try.ntmps84
  go_upto_region 1 with (fail)
  clear hw1
  go_wp2_with fail
  refine HCP.out.mono ?_
  rintro e w4 ⟨q4, A, c, R, d, M, rfl, hM, hI, hR⟩
  clear HCP
  obtain ⟨w5, hw5⟩ : ∃ w5, w4.alloc (.cells #[.int .i64 P, .slice A its.length c, .slice R rls.length d] 25) = w5 := ⟨_, rfl⟩
  have h45 : Below w4.heap.size w4 w5 := by rw [← hw5]; exact (Below.refl _ _).alloc (Nat.le_refl _) _
  have hc : ∀ {a : Addr} {u : Value}, w1.cell? a = some u → w5.cell? a = some u := fun hu => by
    have h4 := (q4.cell (cell_lt hu)).trans hu
    exact (h45.cell (cell_lt h4)).trans h4
  have e0 : w5.cell? ⟨w4.heap.size, 0, none⟩ = some (.int .i64 P) := by rw [← hw5]; clear hw5; go_simp
  have e1 : w5.cell? ⟨w4.heap.size, 1, none⟩ = some (.slice A its.length c) := by rw [← hw5]; clear hw5; go_simp
  have e2 : w5.cell? ⟨w4.heap.size, 2, none⟩ = some (.slice R rls.length d) := by rw [← hw5]; clear hw5; go_simp
  have ef : w5.frozen? ⟨w4.heap.size, 2, none⟩ = false := by rw [← hw5]; clear hw5; go_simp
  have hsz4 := q4.size
  have hlt3 := cell_lt s0
  have HD := hid (show RdB w w5 w4.heap.size P (.slice ia its.length ic) (.slice ra rls.length rc) (.slice A its.length c) (.slice R rls.length d) from
    ⟨hc a0, hc a1, hc a2, hc s0, hc s1, hc s2, fun j hj => by
      have f3 := sf j hj
      have f4 := (q4.frozen (p := ⟨w.heap.size + 1, j, none⟩) hlt3).trans f3
      exact (h45.frozen (p := ⟨w.heap.size + 1, j, none⟩) (Nat.lt_of_lt_of_le hlt3 hsz4)).trans f4, e0, e1, e2, ef, ⟨_, _, by rw [← hw5]; exact heap_alloc_new _ _⟩, by omega, (hB1.trans (q4.mono hB1.size)).trans (h45.mono (by omega))⟩)
  have HB := hid (((BookO.of hI hR (by omega)).weak (b' := w.heap.size + 2) (by omega)).below h45)
  generalize hq : w4.heap.size = q at *
  clear a0 a1 a2 s0 s1 s2 sf hc e0 e1 ef hI hR h45 q4 hsz4 hlt3 hB1 hM
  go_upto_region 3 with (fail)
  clear hw5 e2
  go_loopw [17] (fun i wr => ∃ (k : Nat) (l : List ItemL), k ≤ sw.length ∧ i = .int .i64 k ∧ Hid (exL its sw k = some l) ∧ Hid (RdB w wr q P (.slice ia its.length ic) (.slice ra rls.length rc) (.slice A its.length c) (.slice R rls.length d)) ∧ Hid (BookO wr (w.heap.size + 2) (csI l) (csR rls) its.length rls.length (.slice A its.length c) (.slice R rls.length d))) (fun i _ => sw.length - (intOf i).toNat)
  case atStart => exact ⟨0, its, Nat.zero_le _, rfl, rfl, HD.out, HB.out⟩
  case round =>
    obtain ⟨k, l, hk, rfl, HL, HDr, HBr⟩ := hrel
    clear HD HB
    by_cases hlt : k < sw.length
    · rcases (HSA.out _ HDr.out.bel).at_ with e | ⟨b, off, rfl, hcs⟩
      · rw [e] at hlt; simp at hlt
      obtain ⟨c0, c1⟩ := hcs k hlt
      have hk0 : (0 : Int) ≤ (k : Int) := by omega
      have hk1 : (k : Int) < (sw.length : Int) := by omega
      have hll := exL_len HL.out
      have hok := HIt.out k hk l HL.out
      have hsb := HsB.out (sw[k]?.getD (0, 0)) (by rw [List.getElem?_eq_getElem hlt]; exact List.getElem_mem _)
      have HSw := hid (show sw[k]?.getD (0, 0) = ((sw[k]?.getD (0, 0)).1, (sw[k]?.getD (0, 0)).2) from rfl)
      clear hcs
      generalize hs1 : (sw[k]?.getD (0, 0)).1 = sx at *
      generalize hs2 : (sw[k]?.getD (0, 0)).2 = sy at *
      clear hs1 hs2
      have hA6 : Below wr.heap.size wr (wr.alloc (.cells #[.int .i64 sx, .int .i64 sy] 71)) := (Below.refl _ _).alloc (Nat.le_refl _) _
      have HS6 := hid (SwX.made wr (sx, sy))
      have HD6 := hid (HDr.out.below hA6)
      have HB6 := hid (HBr.out.below hA6)
      dsimp only at HS6
      go_upto_region 5 with (fail)
      generalize wr.alloc (.cells #[.int .i64 sx, .int .i64 sy] 71) = w6 at *
      generalize wr.heap.size = o8 at *
      clear hA6 c0 c1 HDr HBr
      have c1 := HD6.out.c1
      obtain ⟨wo, hwo⟩ : ∃ x, x = wr := ⟨_, rfl⟩
      subst hwo
      go_wp2_with fail
      clear c1
      go_loopw [24] (fun i2 wi => ∃ (j : Nat) (m : List ItemL), j ≤ its.length ∧ i2 = .int .i64 j ∧ Hid (exTo (sx, sy) l j = some m) ∧ Hid (RdB w wi q P (.slice ia its.length ic) (.slice ra rls.length rc) (.slice A its.length c) (.slice R rls.length d)) ∧ Hid (BookO wi (w.heap.size + 2) (csI m) (csR rls) its.length rls.length (.slice A its.length c) (.slice R rls.length d)) ∧ Hid (SwX wi o8 (sx, sy))) (fun i2 _ => its.length - (intOf i2).toNat)
      case atStart => exact ⟨0, l, Nat.zero_le _, rfl, rfl, HD6.out, HB6.out, HS6.out⟩
      case round =>
        obtain ⟨j, m, hj, rfl, HT, HDr, HBr, HSx⟩ := hrel
        clear HD6 HB6 HS6
        by_cases hjl : j < its.length
        · obtain ⟨G, c', hv, hG, _, _⟩ := HBr.out.items.head (by omega)
          simp only [Value.slice.injEq, true_and] at hv
          obtain ⟨rfl, rfl⟩ := hv
          have hml := exTo_len HT.out
          have hokm := exTo_ok (P := P) (by omega) (by omega) hsb.2.1 hok HT.out j (by omega)
          obtain ⟨m1, m2, m3⟩ := hokm
          rw [isSetFrom_iff] at m2
          have HJ := hid (csI_get m j (by omega)).1
          have HSt := hid (fun (xs : List Int) => csI_set m j xs (by omega))
          have hmj : j < m.length := by omega
          have HPs0 := hid (show m[j]?.getD ([], []) = ((m[j]?.getD ([], [])).1, (m[j]?.getD ([], [])).2) from rfl)
          generalize hps : (m[j]?.getD ([], [])).1 = ps at *
          generalize hhs : (m[j]?.getD ([], [])).2 = hs at *
          have HPs := hid (show m[j]?.getD ([], []) = (ps, hs) from HPs0.out)
          have hpb : ∀ x ∈ ps, 0 ≤ x ∧ x < 64 := fun x hx => by have := m2.2 x hx; omega
          have HEx := hid (fun (hm : sx ∈ ps) => exP_set (sx, sy) ps m2.1 hpb hm)
          obtain ⟨X, d9, cx, ow, _⟩ := HBr.out.list HJ.out
          have HSr := hid (fun (W : World) (hb : Below wr.heap.size wr W) => searchD_any X d9 (w.heap.size + 2) ps sx W (ow.below hb) (by omega) m2.1)
          have HPb := hid hpb
          have HM2 := hid m2
          have hsx := HSx.out.c0
          have HKs := hid (fun (W : World) (hb : Below wr.heap.size wr W) => show W.cell? ⟨G, j * 2, none⟩ = some (.slice X ps.length d9) ∧ W.cell? ⟨o8, 0, none⟩ = some (.int .i64 sx) from ⟨(hb.cell (cell_lt cx)).trans cx, (hb.cell (cell_lt hsx)).trans hsx⟩)
          have hr0 : Below wr.heap.size wr wr := Below.refl _ _
          have c1 := HDr.out.c1
          have hj0 : (0 : Int) ≤ (j : Int) := by omega
          have hj1 : (j : Int) < (its.length : Int) := by omega
          clear ow cx hsx hpb m2 hps hhs HPs0 m3
          go_upto_region 9 with (fail)
          refine wp_region_held_drew (S := (fun w' => w'.cell? ⟨G, j * 2, none⟩ = some (.slice X ps.length d9) ∧ w'.cell? ⟨o8, 0, none⟩ = some (.int .i64 sx))) (by kernel_rfl) (HKs.out _ hr0.drew) (fun hHeld => ?_)
          refine take_d (i := 0) (d := some 32) (v := ?_) rfl rfl (by kernel_rfl) (by kernel_rfl) (by kernel_rfl) (fun _ _ _ h => h) (Or.inl ⟨by first | rfl | (simp [*, Region.wanted, yielded]), ?hyp1⟩) (by assumption) ?restp1
          case hyp1 => (intro w hSw; (try dsimp only at hSw); go_simp <;> with_reducible rfl)
          try simp only [Act.put, List.setIfInBounds_toArray, List.set_cons_zero, List.set_cons_succ]
          refine take_d (i := 1) (d := some 33) (v := ?_) rfl rfl (by kernel_rfl) (by kernel_rfl) (by kernel_rfl) (fun _ _ _ h => h) (Or.inl ⟨by first | rfl | (simp [*, Region.wanted, yielded]), ?hyp2⟩) (by assumption) ?restp2
          case hyp2 => (intro w hSw; (try dsimp only at hSw); go_simp <;> with_reducible rfl)
          try simp only [Act.put, List.setIfInBounds_toArray, List.set_cons_zero, List.set_cons_succ]
          refine take_d (i := 2) (d := some 34) (v := ?_) rfl rfl (by kernel_rfl) (by kernel_rfl) (by kernel_rfl) (fun _ _ _ h => h) (Or.inl ⟨by first | rfl | (simp [*, Region.wanted, yielded]), ?hyp3⟩) (by assumption) ?restp3
          case hyp3 => (intro w hSw; (try dsimp only at hSw); go_simp <;> with_reducible rfl)
          try simp only [Act.put, List.setIfInBounds_toArray, List.set_cons_zero, List.set_cons_succ]
          refine take_d (i := 3) (d := some 35) (v := ?_) rfl rfl (by kernel_rfl) (by kernel_rfl) (by kernel_rfl) (fun _ _ _ h => h) (Or.inl ⟨by first | rfl | (simp [*, Region.wanted, yielded]), ?hyp4⟩) (by assumption) ?restp4
          case hyp4 => (intro w hSw; (try dsimp only at hSw); go_simp <;> with_reducible rfl)
          try simp only [Act.put, List.setIfInBounds_toArray, List.set_cons_zero, List.set_cons_succ]
          refine take_d (i := 4) (d := some 36) (v := ?_) rfl rfl (by kernel_rfl) (by kernel_rfl) (by kernel_rfl) (fun _ _ _ h => h) (Or.inl ⟨by first | rfl | (simp [*, Region.wanted, yielded]), ?hyp5⟩) (by assumption) ?restp5
          case hyp5 => (intro w hSw; (try dsimp only at hSw); go_simp <;> with_reducible rfl)
          try simp only [Act.put, List.setIfInBounds_toArray, List.set_cons_zero, List.set_cons_succ]
          refine take_d (i := 5) (d := some 37) (v := ?_) rfl rfl (by kernel_rfl) (by kernel_rfl) (by kernel_rfl) (fun _ _ _ h => h) (Or.inl ⟨by first | rfl | (simp [*, Region.wanted, yielded]), ?hyp6⟩) (by assumption) ?restp6
          case hyp6 => (intro w hSw; (try dsimp only at hSw); go_simp <;> with_reducible rfl)
          try simp only [Act.put, List.setIfInBounds_toArray, List.set_cons_zero, List.set_cons_succ]
          refine wpAnyH_ready (rs := [6]) (by kernel_rfl) (by simp) ?_
          refine AllReadyH.cons (o := _) rfl (fun K hK => ?_) AllReadyH.nil
          go_simp
          refine (HSr.out _ hr0.drew).mono ?_
          rintro e5 w5 ⟨rfl, qn, hw5⟩
          have p5 : Below wr.heap.size wr w5 := by rw [hw5]; exact below_drewN hr0.drew qn
          clear hw5
          go_wp2_with fail
          refine hK.out _ _ (HKs.out _ p5) (fun hHeld => ?_)
          clear hK K
          try simp only [Act.put, List.setIfInBounds_toArray, List.set_cons_zero, List.set_cons_succ]
          refine take_d (i := 7) (d := some 31) (v := ?_) rfl rfl (by kernel_rfl) (by kernel_rfl) (by kernel_rfl) (fun _ _ _ h => h) (Or.inl ⟨by first | rfl | (simp [*, Region.wanted, yielded]), ?hyp7⟩) (by assumption) ?restp7
          case hyp7 => (intro w hSw; (try dsimp only at hSw); go_simp <;> with_reducible rfl)
          try simp only [Act.put, List.setIfInBounds_toArray, List.set_cons_zero, List.set_cons_succ]
          refine take_d (i := 8) (d := some 39) (v := ?_) rfl rfl (by kernel_rfl) (by kernel_rfl) (by kernel_rfl) (fun _ _ _ h => h) (Or.inl ⟨by first | rfl | (simp [*, Region.wanted, yielded]), ?hyp8⟩) (by assumption) ?restp8
          case hyp8 => (intro w hSw; (try dsimp only at hSw); go_simp <;> with_reducible rfl)
          try simp only [Act.put, List.setIfInBounds_toArray, List.set_cons_zero, List.set_cons_succ]
          refine take_d (i := 9) (d := some 40) (v := ?_) rfl rfl (by kernel_rfl) (by kernel_rfl) (by kernel_rfl) (fun _ _ _ h => h) (Or.inl ⟨by first | rfl | (simp [*, Region.wanted, yielded]), ?hyp9⟩) (by assumption) ?restp9
          case hyp9 => (intro w hSw; (try dsimp only at hSw); go_simp <;> with_reducible rfl)
          try simp only [Act.put, List.setIfInBounds_toArray, List.set_cons_zero, List.set_cons_succ]
          refine take_d (i := 10) (d := some 11) (v := ?_) rfl rfl (by kernel_rfl) (by kernel_rfl) (by kernel_rfl) (fun _ _ _ h => h) (Or.inl ⟨by first | rfl | (simp [*, Region.wanted, yielded]), ?hyp10⟩) (by assumption) ?restp10
          case hyp10 => (intro w hSw; (try dsimp only at hSw); go_simp <;> with_reducible rfl)
          try simp only [Act.put, List.setIfInBounds_toArray, List.set_cons_zero, List.set_cons_succ]
          refine take_d (i := 11) (d := some 12) (v := ?_) rfl rfl (by kernel_rfl) (by kernel_rfl) (by kernel_rfl) (fun _ _ _ h => h) (Or.inl ⟨by first | rfl | (simp [*, Region.wanted, yielded]), ?hyp11⟩) (by assumption) ?restp11
          case hyp11 => (intro w hSw; (try dsimp only at hSw); go_simp <;> with_reducible rfl)
          try simp only [Act.put, List.setIfInBounds_toArray, List.set_cons_zero, List.set_cons_succ]
          refine wpAnyH_done (by kernel_rfl) ?_ _
          go_simp
          have HD5 := hid (HDr.out.below p5)
          have HB5 := hid (HBr.out.below p5)
          have HS5 := hid (HSx.out.below p5)
          clear HKs HSr hr0 HDr HBr HSx p5
          cases hmem : memB sx ps with
          | false =>
            have HN := hid (show exTo (sx, sy) l (j + 1) = some m by rw [exTo, HT.out, Option.bind_some, HPs.out, hmem]; rfl)
            clear hmem HEx
            go_wp2
            go_roundw
            case rel => exact ⟨j + 1, m, by omega, by go_num, HN.out, HD5.out, HB5.out, HS5.out⟩
            case measure => simp [intOf]; omega
          | true =>
            obtain ⟨_, sy1, _⟩ := id HS5.out
            by_cases hge : (j : Int) ≤ sy
            · have HN := hid (show exTo (sx, sy) l (j + 1) = none by rw [exTo, HT.out, Option.bind_some, HPs.out, hmem, if_pos rfl, if_pos hge])
              obtain ⟨_, _, _, r0, r1, r2, rf, _, _, _, _, _, _, bel⟩ := HD5.out
              have f0 := rf 0 (by omega)
              have f1 := rf 1 (by omega)
              have f2 := rf 2 (by omega)
              have HZ := hid (((bel.setCell (p := ⟨w.heap.size + 1, 0, none⟩) (by show w.heap.size ≤ w.heap.size + 1; omega) (.int .i64 0)).setCell (p := ⟨w.heap.size + 1, 1, none⟩) (by show w.heap.size ≤ w.heap.size + 1; omega) (.slice none 0 0)).setCell (p := ⟨w.heap.size + 1, 2, none⟩) (by show w.heap.size ≤ w.heap.size + 1; omega) (.slice none 0 0))
              have HFin := hid (show exL its sw sw.length = none from exL_none (k := k + 1) (by rw [exL, HL.out, Option.bind_some, HSw.out]; exact exTo_none HN.out _ (by omega)) _ (by omega))
              clear rf bel hmem HEx
              go_wp2
              refine bodyPost_ret (v := .tuple #[.agg #[.int .i64 0, .slice none 0 0, .slice none 0 0], .int .i64 7]) (by simp [results, Try.results84, go_sem, r0, r1, r2]) rfl ⟨HZ.out, .inl ⟨HFin.out, rfl⟩⟩
            · obtain ⟨hEq0, hat⟩ := HEx.out ((memB_iff _ _).1 hmem)
              have HN := hid (show exTo (sx, sy) l (j + 1) = some (m.set j (exP (sx, sy) ps, hs)) by rw [exTo, HT.out, Option.bind_some, HPs.out, hmem, if_pos rfl, if_neg hge])
              have HEq := hid hEq0
              clear HEx hmem hEq0
              obtain ⟨X2, d2, cx2, ow2, hput2⟩ := HB5.out.list HJ.out
              obtain ⟨g, hX2, hg⟩ : ∃ g, X2 = some ⟨g, 0, none⟩ ∧ w.heap.size + 2 ≤ g := by
                rcases ow2.2 with ⟨hv, hn⟩ | ⟨g, c', cur, hv, hg, _⟩
                · omega
                · simp only [Value.slice.injEq, true_and] at hv
                  exact ⟨g, hv.1, hg⟩
              subst hX2
              generalize List.countP (fun x => decide (x < sx)) ps = at_ at *
              have ce : w5.drew.cell? ⟨g, at_, none⟩ = some (.int .i64 (ps[at_]?.getD 0)) := by
                show w5.cell? _ = _
                rw [ow2.cellAt at_ (by omega), List.getElem?_map, List.getElem?_eq_getElem hat]; rfl
              have fe : w5.drew.frozen? ⟨g, at_, none⟩ = false := ow2.frozenAt at_
              have hgq : g ≠ q := Own.notTy ow2 HD5.out.cq (by decide)
              have hgo : g ≠ o8 := Own.notTy ow2 HS5.out.ty (by decide)
              have HBn := hid (hput2 g rfl at_ sy)
              have HDn := hid (HD5.out.keepSet ⟨g, at_, none⟩ (.int .i64 sy) hg hgq)
              have HSn := hid (HS5.out.put ⟨g, at_, none⟩ (.int .i64 sy) hgo)
              have HBd := hid (show BookO (w5.drew.setCell ⟨g, at_, none⟩ (.int .i64 sy)) (w.heap.size + 2) ((csI m).set (j * 2) (.inl (ps.set at_ sy))) (csR rls) its.length rls.length (.slice (some ⟨G, 0, none⟩) its.length c) (.slice R rls.length d) from HBn.out.below (w := w5.setCell ⟨g, at_, none⟩ (.int .i64 sy)) (by exact (Below.refl _ _).drew))
              have HDd := hid (show RdB w (w5.drew.setCell ⟨g, at_, none⟩ (.int .i64 sy)) q P (.slice ia its.length ic) (.slice ra rls.length rc) (.slice (some ⟨G, 0, none⟩) its.length c) (.slice R rls.length d) from HDn.out.below (w := w5.setCell ⟨g, at_, none⟩ (.int .i64 sy)) (by exact (Below.refl _ _).drew))
              have HSd := hid (show SwX (w5.drew.setCell ⟨g, at_, none⟩ (.int .i64 sy)) o8 (sx, sy) from HSn.out.below (w := w5.setCell ⟨g, at_, none⟩ (.int .i64 sy)) (by exact (Below.refl _ _).drew))
              have cx2 : w5.drew.cell? ⟨G, j * 2, none⟩ = some (.slice (some ⟨g, 0, none⟩) ps.length d2) := cx2
              have sy1 : w5.drew.cell? ⟨o8, 1, none⟩ = some (.int .i64 sy) := sy1
              have ha0 : (0 : Int) ≤ (at_ : Int) := by omega
              have ha1 : (at_ : Int) < (ps.length : Int) := by omega
              clear hput2 ow2 HBn HDn HSn HD5 HB5 HS5
              generalize ps[at_]?.getD 0 = old at *
              obtain ⟨w7, hw7⟩ : ∃ w7, w5.drew.setCell ⟨g, at_, none⟩ (.int .i64 sy) = w7 := ⟨_, rfl⟩
              rw [hw7] at HBd HDd HSd
              have hzl : (ps.set at_ sy).length ≤ 6 := by rw [List.length_set]; exact m1
              have hzb : ∀ x ∈ ps.set at_ sy, 0 ≤ x ∧ x < 64 := fun x hx => by
                rcases List.mem_or_eq_of_mem_set hx with hx | rfl
                · exact HPb.out x hx
                · omega
              have HZb := hid hzb
              generalize ps.set at_ sy = zs at *
              clear hzb
              go_upto_region 13 with (fail)
              go_still_tail 8, (by kernel_rfl)
              change wpList _ _ _ _ _ w5.drew
              have hjc : j * 2 < (csI m).length := by rw [csI_len]; omega
              obtain ⟨X3, d3, cx3, ow3, _⟩ := HBd.out.list (show ((csI m).set (j * 2) (.inl zs))[j * 2]? = some (.inl zs) from List.getElem?_set_self hjc)
              obtain ⟨_, _, hv3, hi3⟩ := ow3.ints (by omega) (fun x hx => by have := HZb.out x hx; omega)
              cases hv3
              have HSs := hid (sortedSet_any X3 zs d3 w7 hi3 (by omega) HZb.out)
              rw [HEq.out] at HSs
              have HX3 := hid cx3
              clear ow3 hi3 hjc cx3
              go_upto_region 14 with (fail)
              clear hw7 ce fe cx2 sy1
              have cx3 := HX3.out
              go_wp2_with fail
              refine HSs.out.mono ?_
              rintro e w8 ⟨q8, A8, c8, rfl, ow8⟩
              have hGq : G ≠ q := HBd.out.items.notTy HDd.out.cq (by decide)
              have hGo : G ≠ o8 := HBd.out.items.notTy HSd.out.ty (by decide)
              have cx8 := (q8.cell (cell_lt cx3)).trans cx3
              have fx8 := (HBd.out.below q8).items.frzO (j * 2)
              have HB9 := hid (HBd.out.putNew q8 (Nat.le_refl _) (by have h1 := HDd.out.hq; have h2 := HDd.out.lt; omega) (j * 2) ow8)
              have HD9 := hid ((HDd.out.below q8).keepSet ⟨G, j * 2, none⟩ (.slice A8 (exP (sx, sy) ps).length c8) hG hGq)
              have HS9 := hid ((HSd.out.below q8).put ⟨G, j * 2, none⟩ (.slice A8 (exP (sx, sy) ps).length c8) hGo)
              rw [List.set_set, HSt.out] at HB9
              clear ow8 q8 cx3 HBd HDd HSd HX3
              generalize exP (sx, sy) ps = np at *
              go_wp2
              go_roundw
              case rel => exact ⟨j + 1, m.set j (np, hs), by omega, by go_num, HN.out, HD9.out, HB9.out, HS9.out⟩
              case measure => simp [intOf]; omega
        · obtain rfl : j = its.length := by omega
          have HN := hid (show exL its sw (k + 1) = some m by rw [exL, HL.out, Option.bind_some, HSw.out, hll]; exact HT.out)
          go_wp2
          go_roundw
          case rel => exact ⟨k + 1, m, by omega, by go_num, HN.out, HDr.out, HBr.out⟩
          case measure => simp [intOf]; omega
    · obtain rfl : k = sw.length := by omega
      obtain ⟨_, _, _, r0, r1, r2, rf, c0, c1, c2, _, _, _, bel⟩ := HDr.out
      have f0 := rf 0 (by omega)
      have f1 := rf 1 (by omega)
      have f2 := rf 2 (by omega)
      have HZ := hid (((bel.setCell (p := ⟨w.heap.size + 1, 0, none⟩) (by show w.heap.size ≤ w.heap.size + 1; omega) (.int .i64 P)).setCell (p := ⟨w.heap.size + 1, 1, none⟩) (by show w.heap.size ≤ w.heap.size + 1; omega) (.slice A its.length c)).setCell (p := ⟨w.heap.size + 1, 2, none⟩) (by show w.heap.size ≤ w.heap.size + 1; omega) (.slice R rls.length d))
      have HBf := hid ((((HBr.out.setCell ⟨w.heap.size + 1, 0, none⟩ (.int .i64 P) (by show w.heap.size + 1 < _; omega)).setCell ⟨w.heap.size + 1, 1, none⟩ (.slice A its.length c) (by show w.heap.size + 1 < _; omega)).setCell ⟨w.heap.size + 1, 2, none⟩ (.slice R rls.length d) (by show w.heap.size + 1 < _; omega)).weak (b' := w.heap.size) (by omega))
      clear rf bel
      go_wp2
      refine bodyPost_ret (v := .tuple #[.agg #[.int .i64 P, .slice A its.length c, .slice R rls.length d], .int .i64 0]) (by simp [results, Try.results84, go_sem, r0, r1, r2]) rfl ⟨HZ.out, .inr ⟨l, A, c, R, d, HL.out, rfl, HBf.out⟩⟩
end Go.Proofs.Ytdgleicpcjfnoaa
set_option linter.unusedVariables false
set_option linter.unusedSimpArgs false
namespace Go.Proofs.Ytdgleicpcjfnoaa
open Go.RowKit

def exchE (P : Int) (its : List ItemL) (rls : List RuleL) (sw : List (Int × Int)) : Int :=
  if validB P its rls ≠ 0 then validB P its rls else if swE its.length sw ≠ 0 then swE its.length sw else if exL its sw sw.length = none then 7 else 0
def ExcR (w : World) (P : Int) (its : List ItemL) (rls : List RuleL) (sw : List (Int × Int)) (en : Ending) (w' : World) : Prop :=
  Below w.heap.size w w' ∧ ((exchE P its rls sw ≠ 0 ∧ en = .returned (.tuple #[.agg #[.int .i64 0, .slice none 0 0, .slice none 0 0], .int .i64 (exchE P its rls sw)])) ∨
    (exchE P its rls sw = 0 ∧ ∃ l A c R d, exL its sw sw.length = some l ∧ en = .returned (.tuple #[.agg #[.int .i64 P, .slice A its.length c, .slice R rls.length d], .int .i64 0]) ∧ BookO w' w.heap.size (csI l) (csR rls) its.length rls.length (.slice A its.length c) (.slice R rls.length d)))
/-- The boxes of Exchange. -/
structure ExcB (w0 w : World) (P : Int) (i r : Value) : Prop where
  b0 : w.cell? ⟨w0.heap.size, 0, none⟩ = some (.int .i64 P)
  b1 : w.cell? ⟨w0.heap.size, 1, none⟩ = some i
  b2 : w.cell? ⟨w0.heap.size, 2, none⟩ = some r
  r0 : w.cell? ⟨w0.heap.size + 1, 0, none⟩ = some (.int .i64 0)
  r1 : w.cell? ⟨w0.heap.size + 1, 1, none⟩ = some (.slice none 0 0)
  r2 : w.cell? ⟨w0.heap.size + 1, 2, none⟩ = some (.slice none 0 0)
  rf : ∀ j, j < 3 → w.frozen? ⟨w0.heap.size + 1, j, none⟩ = false
  bel : Below w0.heap.size w0 w
theorem ExcB.made (w : World) (P : Int) (i r : Value) : ExcB w ((w.alloc (.cells #[.int .i64 P, i, r] 25)).alloc (.cells #[.int .i64 0, .slice none 0 0, .slice none 0 0] 25)) P i r :=
  ⟨by go_simp, by go_simp, by go_simp, by go_simp, by go_simp, by go_simp, fun j hj => by go_simp, ((Below.refl _ _).alloc (Nat.le_refl _) _).alloc (by simp) _⟩
theorem ExcB.below {w0 w w' : World} {P : Int} {i r : Value} (h : ExcB w0 w P i r) (hb : Below w.heap.size w w') : ExcB w0 w' P i r := by
  have hc : ∀ {a : Addr} {u : Value}, w.cell? a = some u → w'.cell? a = some u := fun hu => (hb.cell (cell_lt hu)).trans hu
  have hl := cell_lt h.r0
  exact ⟨hc h.b0, hc h.b1, hc h.b2, hc h.r0, hc h.r1, hc h.r2, fun j hj => (hb.frozen (p := ⟨w0.heap.size + 1, j, none⟩) hl).trans (h.rf j hj), h.bel.trans (hb.mono h.bel.size)⟩
theorem ExcB.size {w0 w : World} {P : Int} {i r : Value} (h : ExcB w0 w P i r) : w0.heap.size + 2 ≤ w.heap.size := cell_lt h.r0
theorem ExcB.fin {w0 w : World} {P : Int} {i r : Value} (h : ExcB w0 w P i r) (x y z : Value) : Below w0.heap.size w0 (((w.setCell ⟨w0.heap.size + 1, 0, none⟩ x).setCell ⟨w0.heap.size + 1, 1, none⟩ y).setCell ⟨w0.heap.size + 1, 2, none⟩ z) :=
  ((h.bel.setCell (by show w0.heap.size ≤ w0.heap.size + 1; omega) _).setCell (by show w0.heap.size ≤ w0.heap.size + 1; omega) _).setCell (by show w0.heap.size ≤ w0.heap.size + 1; omega) _
set_option maxRecDepth 100000 in
set_option maxHeartbeats 4000000 in
theorem exchangeE_any (P : Int) (ia : Option Addr) (its : List ItemL) (ic : Nat) (ra : Option Addr) (rls : List RuleL) (rc : Nat) (a : Option Addr) (sw : List (Int × Int)) (cap : Nat) (w : World) (h : BookAt w P ia its ra rls) (hsw : SwAt w a sw) :
  Calls Try.prog 40 #[.agg #[.int .i64 P, .slice ia its.length ic, .slice ra rls.length rc], .slice a sw.length cap] w (ExcR w P its rls sw) := by
  obtain ⟨w1, hw1⟩ : ∃ w1, (w.alloc (.cells #[.int .i64 P, .slice ia its.length ic, .slice ra rls.length rc] 25)).alloc (.cells #[.int .i64 0, .slice none 0 0, .slice none 0 0] 25) = w1 := ⟨_, rfl⟩
  have hX1 : ExcB w w1 P (.slice ia its.length ic) (.slice ra rls.length rc) := by rw [← hw1]; exact ExcB.made _ _ _ _
  have HN := hid (validateB_any P ia its ic ra rls rc w1 (h.below hX1.bel))
  have HC := hid (fun (W : World) (hb : Below w.heap.size w W) (hn : its.length ≤ 1000) => checkSwaps_any P ia its.length ic (.slice ra rls.length rc) a sw cap W (hsw.below hb) hn)
  have HE := hid (fun (W : World) (hb : Below w.heap.size w W) (hv : validB P its rls = 0) (hs : swE its.length sw = 0) => exchange_any P ia its ic ra rls rc a sw cap W (h.below hb) hv (hsw.below hb) hs)
  have HX := hid (show exchE P its rls sw = if validB P its rls ≠ 0 then validB P its rls else if swE its.length sw ≠ 0 then swE its.length sw else if exL its sw sw.length = none then 7 else 0 from rfl)
  have HX1 := hid hX1
  obtain ⟨a0, a1, a2, _⟩ := hX1
  clear h hsw
  by_cases hz : validB P its rls = 0
  · obtain ⟨v0, v1, v2, v3, v4, v5⟩ := validB_ok hz
    by_cases hs : swE its.length sw = 0
    · have HX2 := hid (show exchE P its rls sw = if exL its sw sw.length = none then 7 else 0 by rw [HX.out, if_neg (by simp [hz]), if_neg (by simp [hs])])
      have HE := hid (fun (W : World) (hb : Below w.heap.size w W) => HE.out W hb hz hs)
      have HC := hid (fun (W : World) (hb : Below w.heap.size w W) => HC.out W hb (by omega))
      rw [hz] at HN
      rw [hs] at HC
      clear hz hs v0 v1 v2 v3 v4 v5 HX
      go_enter Try.func40, Try.ntmps40
      go_wp2_with fail
      clear hw1
      refine HN.out.mono ?_
      rintro e w3 ⟨q3, rfl⟩
      have HX3 := hid (HX1.out.below q3)
      clear a0 a1 a2
      obtain ⟨a0, a1, a2, _⟩ := id HX3.out
      go_wp2_with fail
      refine (HC.out _ HX3.out.bel).mono ?_
      rintro e w4 ⟨q4, rfl⟩
      have HX4 := hid (HX3.out.below q4)
      clear a0 a1 a2
      obtain ⟨a0, a1, a2, _⟩ := id HX4.out
      go_wp2_with fail
      refine (HE.out _ HX4.out.bel).mono ?_
      rintro e w5 ⟨q5, hr⟩
      have HX5 := hid (HX4.out.below q5)
      have hsz := HX4.out.size
      clear a0 a1 a2
      obtain ⟨_, _, _, r0, r1, r2, rf, _⟩ := id HX5.out
      have f0 := rf 0 (by omega)
      have f1 := rf 1 (by omega)
      have f2 := rf 2 (by omega)
      clear rf
      rcases hr with ⟨hn, rfl⟩ | ⟨l, A, c, R, d, hl, rfl, hB⟩
      · have HF := hid (show exchE P its rls sw = 7 by rw [HX2.out, if_pos hn])
        clear hn
        go_wp2
        refine bodyPost_ret (v := .tuple #[.agg #[.int .i64 0, .slice none 0 0, .slice none 0 0], .int .i64 7]) (by simp [results, Try.results40, go_sem, r0, r1, r2]) rfl ⟨HX5.out.fin _ _ _, .inl ⟨by rw [HF.out]; decide, by rw [HF.out]⟩⟩
      · have HF := hid (show exchE P its rls sw = 0 by rw [HX2.out, if_neg (by rw [hl]; simp)])
        have HL := hid hl
        have HBf := hid ((((hB.setCell ⟨w.heap.size + 1, 0, none⟩ (.int .i64 P) (by show w.heap.size + 1 < _; omega)).setCell ⟨w.heap.size + 1, 1, none⟩ (.slice A its.length c) (by show w.heap.size + 1 < _; omega)).setCell ⟨w.heap.size + 1, 2, none⟩ (.slice R rls.length d) (by show w.heap.size + 1 < _; omega)).weak (b' := w.heap.size) (by omega))
        clear hl hB
        go_wp2
        refine bodyPost_ret (v := .tuple #[.agg #[.int .i64 P, .slice A its.length c, .slice R rls.length d], .int .i64 0]) (by simp [results, Try.results40, go_sem, r0, r1, r2]) rfl ⟨HX5.out.fin _ _ _, .inr ⟨HF.out, l, A, c, R, d, HL.out, rfl, HBf.out⟩⟩
    · have HF := hid (show exchE P its rls sw = swE its.length sw by rw [HX.out, if_neg (by simp [hz]), if_pos hs])
      have HC := hid (fun (W : World) (hb : Below w.heap.size w W) => HC.out W hb (by omega))
      rw [hz] at HN
      have HNz := hid hs
      generalize swE its.length sw = x at *
      have hx : (x != 0) = true := by simp [hs]
      clear hz hs v0 v1 v2 v3 v4 v5 HX HE
      go_enter Try.func40, Try.ntmps40
      go_wp2_with fail
      clear hw1
      refine HN.out.mono ?_
      rintro e w3 ⟨q3, rfl⟩
      have HX3 := hid (HX1.out.below q3)
      clear a0 a1 a2
      obtain ⟨a0, a1, a2, _⟩ := id HX3.out
      go_wp2_with fail
      refine (HC.out _ HX3.out.bel).mono ?_
      rintro e w4 ⟨q4, rfl⟩
      have HX4 := hid (HX3.out.below q4)
      clear a0 a1 a2
      obtain ⟨_, _, _, r0, r1, r2, rf, _⟩ := id HX4.out
      have f0 := rf 0 (by omega)
      have f1 := rf 1 (by omega)
      have f2 := rf 2 (by omega)
      clear rf
      go_wp2
      refine bodyPost_ret (v := .tuple #[.agg #[.int .i64 0, .slice none 0 0, .slice none 0 0], .int .i64 x]) (by simp [results, Try.results40, go_sem, r0, r1, r2]) rfl ⟨HX4.out.fin _ _ _, .inl ⟨by rw [HF.out]; exact HNz.out, by rw [HF.out]⟩⟩
  · have HF := hid (show exchE P its rls sw = validB P its rls by rw [HX.out, if_pos hz])
    have HNz := hid hz
    generalize validB P its rls = x at *
    have hx : (x != 0) = true := by simp [hz]
    clear hz HX HE HC
    go_enter Try.func40, Try.ntmps40
    go_wp2_with fail
    clear hw1
    refine HN.out.mono ?_
    rintro e w3 ⟨q3, rfl⟩
    have HX3 := hid (HX1.out.below q3)
    clear a0 a1 a2
    obtain ⟨_, _, _, r0, r1, r2, rf, _⟩ := id HX3.out
    have f0 := rf 0 (by omega)
    have f1 := rf 1 (by omega)
    have f2 := rf 2 (by omega)
    clear rf
    go_wp2
    refine bodyPost_ret (v := .tuple #[.agg #[.int .i64 0, .slice none 0 0, .slice none 0 0], .int .i64 x]) (by simp [results, Try.results40, go_sem, r0, r1, r2]) rfl ⟨HX3.out.fin _ _ _, .inl ⟨by rw [HF.out]; exact HNz.out, by rw [HF.out]⟩⟩
end Go.Proofs.Ytdgleicpcjfnoaa
