/- The search for the best order: one step. -/
import Derived.Test.YthogliblgcccnaaKiTry
import Derived.Test.YthogliblgcccnaaTakeD
set_option linter.unusedVariables false
namespace Go.Proofs.Ythogliblgcccnaa
open Go.RowKit

set_option maxRecDepth 100000 in
set_option maxHeartbeats 8000000 in
theorem try_step {W0 : World} {a : Option Addr} {l : List Bt} {cap g b1 b2 b3 b4 b5 cp p : Nat} (hD : Dist W0.heap.size g b1 b2 b3 b4 b5) (hl : BtsOk l) (hB : Bts W0 a l) (hpl : p < l.length)
  (ih : ∀ (w : World) (o : List Int) (m x0 x1 x3 : Int), TryS W0 a l cap g b1 b2 b3 b4 b5 cp w o m → IsOrd o l.length →
    Calls Try.prog 74 #[.int .i64 ((p : Int) + 1), .agg #[.int .i64 x0, .int .i64 x1, .int .i64 (cookTo (seqO l o) (p + 1)), .int .i64 x3, .int .i64 (packTo (seqO l o) (p + 1))], .pointer (some ⟨b1, 0, none⟩), .pointer (some ⟨b2, 0, none⟩), .pointer (some ⟨b3, 0, none⟩), .pointer (some ⟨b4, 0, none⟩), .pointer (some ⟨b5, 0, none⟩)] w (TryR W0 a l cap g b1 b2 b3 b4 b5 cp w o m (p + 1)))
  (w : World) (o : List Int) (m x0 x1 x3 : Int) (hS : TryS W0 a l cap g b1 b2 b3 b4 b5 cp w o m) (ho : IsOrd o l.length) :
  Calls Try.prog 74 #[.int .i64 (p : Int), .agg #[.int .i64 x0, .int .i64 x1, .int .i64 (cookTo (seqO l o) p), .int .i64 x3, .int .i64 (packTo (seqO l o) p)], .pointer (some ⟨b1, 0, none⟩), .pointer (some ⟨b2, 0, none⟩), .pointer (some ⟨b3, 0, none⟩), .pointer (some ⟨b4, 0, none⟩), .pointer (some ⟨b5, 0, none⟩)] w (TryR W0 a l cap g b1 b2 b3 b4 b5 cp w o m p) := by
  have hol := ho.len
  have hl7 := hl.len
  have hcb := cookTo_bd (seq_ok hl ho) p (by rw [seqO_len]; omega)
  have hpb := packTo_bd (seq_ok hl ho) p (by rw [seqO_len]; omega)
  have HTk := hid (fun (q : Nat) (hq : p ≤ q) (hql : q < o.length) => seqO_take (l := l) (swapL_take o p q hql hq) (by omega) (by rw [swapL_len]; omega) p (Nat.le_refl _))
  generalize hc : cookTo (seqO l o) p = c at *
  generalize hk : packTo (seqO l o) p = pk at *
  have hbx := (Below.refl w.heap.size w).alloc (Nat.le_refl _) (.cells #[.int .i64 x0, .int .i64 x1, .int .i64 c, .int .i64 x3, .int .i64 pk] 37)
  have hX : LBox (w.alloc (.cells #[.int .i64 x0, .int .i64 x1, .int .i64 c, .int .i64 x3, .int .i64 pk] 37)) w.heap.size x0 x1 c x3 pk := by unfold LBox World.alloc; simp
  have hS1 := hS.below2 hbx
  have HK := hid (Keep3.of (g := g) (b2 := b2) (b3 := b3) hbx)
  have lt8 : w.heap.size < (w.alloc (.cells #[.int .i64 x0, .int .i64 x1, .int .i64 c, .int .i64 x3, .int .i64 pk] 37)).heap.size := by simp
  have ng : g < w.heap.size := lt_of_block hS.arr
  have n2 : b2 < w.heap.size := lt_of_block hS.cLst
  have n3 : b3 < w.heap.size := by obtain ⟨_, _, _, h, _⟩ := hS.cFnd; exact lt_of_block h
  generalize hwB : w.alloc (.cells #[.int .i64 x0, .int .i64 x1, .int .i64 c, .int .i64 x3, .int .i64 pk] 37) = wB at *
  obtain ⟨e0, e1, e2, e3, e4⟩ := hX.cells
  have k1 := cell_of_one hS1.cOrd
  have HS := hid hS1
  have HX := hid hX
  have j1 : ((p : Int) == (o.length : Int)) = false := by rw [beq_eq_false_iff_ne]; omega
  have j2 : (p : Int) < (o.length : Int) := by omega
  have hpo : p < o.length := by omega
  have hol7 : o.length ≤ 7 := by omega
  have HOL := hid hol
  have HOrd := hid ho
  have HD := hid hD
  have HL := hid hl
  have HBt := hid hB
  have HIH := hid ih
  have HCP := hid (show cookTo (seqO l o) p = c ∧ packTo (seqO l o) p = pk from ⟨hc, hk⟩)
  clear hS hX hS1 hD ho hbx hol hl hB ih hc hk
  go_enter Try.func74, Try.ntmps74
  go_wp2_with fail
  clear hwB e0 e1 e2 e3 e4 k1
  go_loopw [29] (fun i wr => ∃ (k : Nat) (mk : Int), k ≤ o.length - p ∧ i = .int .i64 k ∧ mk ≤ m ∧ Hid (TryS W0 a l cap g b1 b2 b3 b4 b5 cp wr o mk) ∧ Hid (LowK l o p k mk) ∧ Hid (Keep3 g b2 b3 wB wr)) (fun i _ => (o.length - p) - (intOf i).toNat)
  case atStart => exact ⟨0, m, Nat.zero_le _, rfl, Int.le_refl _, HS, LowK.zero l o p m, Keep3.refl _ _ _ _⟩
  case round =>
    obtain ⟨k, mk, hk, rfl, hmk, HSr, HLk, HKr⟩ := hrel
    clear HS
    have k1 := cell_of_one HSr.out.cOrd
    by_cases hlt : k < o.length - p
    · have hlt' : (k : Int) < (o.length : Int) - (p : Int) := by omega
      have hql : p + k < o.length := by omega
      have i0 : (0 : Int) ≤ (p : Int) := by omega
      have i1 : (0 : Int) ≤ (p : Int) + (k : Int) := by omega
      have i2 : (p : Int) + (k : Int) < (o.length : Int) := by omega
      go_wp2_with fail
      obtain ⟨q, hq⟩ : ∃ q : Nat, (p : Int) + (k : Int) = (q : Int) := ⟨p + k, by omega⟩
      have hqk : p + k = q := by omega
      rw [hq]
      rw [hq] at i1 i2
      rw [hqk] at hql
      have HQ := hid hqk
      have hpq : p ≤ q := by omega
      clear hq hqk
      have a1 := arr_cell HSr.out.arr p hpo
      have a2 := arr_cell HSr.out.arr q hql
      have af := arr_free HSr.out.arr
      have S7 := HSr.out.swap HD.out p q
      have K7 := swap_keep (g := g) (b2 := b2) (b3 := b3) wr o p q
      have nb1 : g ≠ b1 := HD.out.g1
      have nb2 : b1 ≠ g := Ne.symm HD.out.g1
      rcases Nat.eq_or_lt_of_le hpq with hpq' | hpq'
      · subst hpq'
        go_region
        obtain ⟨wz, hwz⟩ : ∃ wz, ((wr.setCell ⟨g, p, none⟩ (.int .i64 (oAt o p))).setCell ⟨g, p, none⟩ (.int .i64 (oAt o p))) = wz := ⟨_, rfl⟩
        rw [hwz] at S7 K7
        have S8 := S7.below2 (Below.refl wz.heap.size wz).drew
        have K8 := hid (K7.trans (Keep3.of (g := g) (b2 := b2) (b3 := b3) (Below.refl wz.heap.size wz).drew))
        obtain ⟨wy, hwy⟩ : ∃ wy, wz.drew = wy := ⟨_, rfl⟩
        rw [hwy] at S8 K8
        first
          | rw [hwz, hwy]
          | (rw [show (((wr.drew.setCell ⟨g, p, none⟩ (.int .i64 (oAt o p))).setCell ⟨g, p, none⟩ (.int .i64 (oAt o p)))) = wz.drew by rw [← hwz]; rfl, hwy])
          | (rw [show (((wr.setCell ⟨g, p, none⟩ (.int .i64 (oAt o p))).setCell ⟨g, p, none⟩ (.int .i64 (oAt o p)))).drew = wz.drew by rw [← hwz], hwy])
        clear hwy hwz S7 K7 a1 a2 af k1
        as_aux_lemma =>
          have HS8 := hid S8
          have HK8 := hid (HKr.out.trans K8.out)
          have hoz := swapL_ord HOrd.out (i := p) (j := p) (by omega) (by omega)
          have hzl := swapL_len o p p
          have hm8 := hoz.mem (oAt_mem2 (swapL o p p) p (by omega))
          obtain ⟨n, hn⟩ := Int.eq_ofNat_of_zero_le hm8.1
          have a1 := arr_cell S8.arr p (by omega)
          rw [hn] at a1
          have k1 := cell_of_one S8.cOrd
          rw [hzl] at k1
          have k4 := cell_of_one S8.cTry
          have k5 := cell_of_one S8.cL
          unfold tryV at k4
          have hbx8 : wy.heap[w.heap.size]? = wB.heap[w.heap.size]? := HK8.out.block _ lt8 (by omega) (by omega) (by omega)
          have X8 : LBox wy w.heap.size x0 x1 c x3 pk := by unfold LBox; rw [hbx8]; exact HX.out
          obtain ⟨e0, e1, e2, e3, e4⟩ := X8.cells
          have l1 : b1 < wy.heap.size := lt_of_block S8.cOrd
          have l4 : b4 < wy.heap.size := lt_of_block S8.cTry
          have l5 : b5 < wy.heap.size := lt_of_block S8.cL
          have lg := lt_of_block S8.arr
          have l8 := X8.lt
          have hT8 := HTk.out p (by omega) (by omega)
          have hy : btAt (seqO l (swapL o p p)) p = btAt l n := by rw [seqO_at l _ p (by omega), hn]; rfl
          have HN0 := (fun W (hb : Below wy.heap.size wy W) => kNext_any x0 x1 x3 c pk a l cap n W ((HBt.out.below S8.below).below hb) (by omega) (by omega) (by omega) (HL.out.at_ n (by omega)))
          have HN1 : ∀ W, Below wy.heap.size wy W → Calls Try.prog 71 #[.agg #[.int .i64 x0, .int .i64 x1, .int .i64 c, .int .i64 x3, .int .i64 pk], .slice a l.length cap, .int .i64 (n : Int)] W (fun en w' => Below wy.heap.size wy w' ∧ en = .returned (.agg #[.int .i64 (n : Int), .int .i64 c, .int .i64 (cookTo (seqO l (swapL o p p)) (p + 1)), .int .i64 (max (c + (btAt l n).1) pk), .int .i64 (packTo (seqO l (swapL o p p)) (p + 1))])) := fun W hb => (HN0 W hb).mono fun e w' h => by
            refine ⟨hb.trans (h.1.mono hb.size), h.2.trans ?_⟩
            have q1 : cookTo (seqO l (swapL o p p)) (p + 1) = c + (btAt l n).1 := by rw [cookTo, hy, hT8.1]
            have q2 : packTo (seqO l (swapL o p p)) (p + 1) = max (c + (btAt l n).1) pk + (btAt l n).2 := by rw [packTo, q1, hy, hT8.2]
            rw [q1, q2]
          have HN := hid HN1
          have HI := hid (fun W (hb : Below wy.heap.size wy W) => HIH.out W (swapL o p p) mk (n : Int) c (max (c + (btAt l n).1) pk) (HS8.out.below2 hb) hoz)
          have HOz := hid hoz
          have HZL := hid hzl
          have hr : Below wy.heap.size wy wy := Below.refl _ _
          have s1 : IntKind.i64.wrap ((p : Int) + 1) = (p : Int) + 1 := IntWalk.i64_in _ (by omega)
          have HX8 := hid X8
          have HOn := hid hn
          clear HN0 HN1 hy hT8 hn hm8 S8 X8 hbx8 hoz hzl
          have HKb := hid (fun W (bq : Below wy.heap.size wy W) => (show W.cell? ⟨b4, 0, none⟩ = some (.func (.func 74) #[] #[.pointer (some ⟨b1, 0, none⟩), .pointer (some ⟨b2, 0, none⟩), .pointer (some ⟨b3, 0, none⟩), .pointer (some ⟨b4, 0, none⟩), .pointer (some ⟨b5, 0, none⟩)]) ∧ W.cell? ⟨b5, 0, none⟩ = some (.slice a l.length cap) ∧ W.cell? ⟨b1, 0, none⟩ = some (.slice (some ⟨g, 0, none⟩) o.length cp) ∧ W.cell? ⟨g, p, none⟩ = some (.int .i64 (n : Int)) ∧ W.cell? ⟨w.heap.size, 0, none⟩ = some (.int .i64 x0) ∧ W.cell? ⟨w.heap.size, 1, none⟩ = some (.int .i64 x1) ∧ W.cell? ⟨w.heap.size, 2, none⟩ = some (.int .i64 c) ∧ W.cell? ⟨w.heap.size, 3, none⟩ = some (.int .i64 x3) ∧ W.cell? ⟨w.heap.size, 4, none⟩ = some (.int .i64 pk) from
            ⟨(bq.cell (p := ⟨b4, 0, none⟩) l4).trans k4, (bq.cell (p := ⟨b5, 0, none⟩) l5).trans k5, (bq.cell (p := ⟨b1, 0, none⟩) l1).trans k1, (bq.cell (p := ⟨g, p, none⟩) lg).trans a1, (bq.cell (p := ⟨w.heap.size, 0, none⟩) l8).trans e0, (bq.cell (p := ⟨w.heap.size, 1, none⟩) l8).trans e1, (bq.cell (p := ⟨w.heap.size, 2, none⟩) l8).trans e2, (bq.cell (p := ⟨w.heap.size, 3, none⟩) l8).trans e3, (bq.cell (p := ⟨w.heap.size, 4, none⟩) l8).trans e4⟩))
          have HKt := hid (fun W V mm (bq : Below wy.heap.size wy W) (hk : Keep3 g b2 b3 W V) (hs : TryS W0 a l cap g b1 b2 b3 b4 b5 cp V (swapL o p p) mm) => (show V.cell? ⟨b4, 0, none⟩ = some (.func (.func 74) #[] #[.pointer (some ⟨b1, 0, none⟩), .pointer (some ⟨b2, 0, none⟩), .pointer (some ⟨b3, 0, none⟩), .pointer (some ⟨b4, 0, none⟩), .pointer (some ⟨b5, 0, none⟩)]) ∧ V.cell? ⟨b5, 0, none⟩ = some (.slice a l.length cap) ∧ V.cell? ⟨b1, 0, none⟩ = some (.slice (some ⟨g, 0, none⟩) o.length cp) ∧ V.cell? ⟨g, p, none⟩ = some (.int .i64 (n : Int)) ∧ V.cell? ⟨w.heap.size, 0, none⟩ = some (.int .i64 x0) ∧ V.cell? ⟨w.heap.size, 1, none⟩ = some (.int .i64 x1) ∧ V.cell? ⟨w.heap.size, 2, none⟩ = some (.int .i64 c) ∧ V.cell? ⟨w.heap.size, 3, none⟩ = some (.int .i64 x3) ∧ V.cell? ⟨w.heap.size, 4, none⟩ = some (.int .i64 pk) from by
            have hb := hk.block w.heap.size (Nat.lt_of_lt_of_le l8 bq.size) (by omega) (by omega) (by omega)
            have XV : LBox V w.heap.size x0 x1 c x3 pk := by
              have := HX8.out
              unfold LBox at this ⊢
              rw [hb, bq.block _ l8]; exact this
            obtain ⟨f0, f1, f2, f3, f4⟩ := XV.cells
            have aV := arr_cell hs.arr p (by rw [HZL.out]; exact hpo)
            rw [HOn.out] at aV
            have kV := cell_of_one hs.cOrd
            rw [HZL.out] at kV
            exact ⟨cell_of_one hs.cTry, cell_of_one hs.cL, kV, aV, f0, f1, f2, f3, f4⟩))
          generalize cookTo (seqO l (swapL o p p)) (p + 1) = c1 at HN HI
          generalize packTo (seqO l (swapL o p p)) (p + 1) = p1 at HN HI
          generalize max (c + (btAt l n).1) pk = m1 at HN HI
          go_wp2_with fail
          refine wp_region_held_drew (S := (fun W => W.cell? ⟨b4, 0, none⟩ = some (.func (.func 74) #[] #[.pointer (some ⟨b1, 0, none⟩), .pointer (some ⟨b2, 0, none⟩), .pointer (some ⟨b3, 0, none⟩), .pointer (some ⟨b4, 0, none⟩), .pointer (some ⟨b5, 0, none⟩)]) ∧ W.cell? ⟨b5, 0, none⟩ = some (.slice a l.length cap) ∧ W.cell? ⟨b1, 0, none⟩ = some (.slice (some ⟨g, 0, none⟩) o.length cp) ∧ W.cell? ⟨g, p, none⟩ = some (.int .i64 (n : Int)) ∧ W.cell? ⟨w.heap.size, 0, none⟩ = some (.int .i64 x0) ∧ W.cell? ⟨w.heap.size, 1, none⟩ = some (.int .i64 x1) ∧ W.cell? ⟨w.heap.size, 2, none⟩ = some (.int .i64 c) ∧ W.cell? ⟨w.heap.size, 3, none⟩ = some (.int .i64 x3) ∧ W.cell? ⟨w.heap.size, 4, none⟩ = some (.int .i64 pk))) (by kernel_rfl) (HKb.out _ hr.drew) (fun hHeld => ?_)
          refine take_d (i := 0) (d := some 49) (v := ?_) rfl rfl (by kernel_rfl) (by kernel_rfl) (by kernel_rfl) (fun _ _ _ h => h) (Or.inl ⟨by first | rfl | (simp [*, Region.wanted, yielded]), ?hya0⟩) (by assumption) ?resta0
          case hya0 => (intro w hSw; (try dsimp only at hSw); go_simp <;> with_reducible rfl)
          try simp only [Act.put, List.setIfInBounds_toArray, List.set_cons_zero, List.set_cons_succ]
          refine take_d (i := 1) (d := some 50) (v := ?_) rfl rfl (by kernel_rfl) (by kernel_rfl) (by kernel_rfl) (fun _ _ _ h => h) (Or.inl ⟨by first | rfl | (simp [*, Region.wanted, yielded]), ?hya1⟩) (by assumption) ?resta1
          case hya1 => (intro w hSw; (try dsimp only at hSw); go_simp <;> with_reducible rfl)
          try simp only [Act.put, List.setIfInBounds_toArray, List.set_cons_zero, List.set_cons_succ]
          refine take_d (i := 2) (d := some 51) (v := ?_) rfl rfl (by kernel_rfl) (by kernel_rfl) (by kernel_rfl) (fun _ _ _ h => h) (Or.inl ⟨by first | rfl | (simp [*, Region.wanted, yielded]), ?hya2⟩) (by assumption) ?resta2
          case hya2 => (intro w hSw; (try dsimp only at hSw); go_simp <;> with_reducible rfl)
          try simp only [Act.put, List.setIfInBounds_toArray, List.set_cons_zero, List.set_cons_succ]
          refine take_d (i := 3) (d := some 52) (v := ?_) rfl rfl (by kernel_rfl) (by kernel_rfl) (by kernel_rfl) (fun _ _ _ h => h) (Or.inl ⟨by first | rfl | (simp [*, Region.wanted, yielded]), ?hya3⟩) (by assumption) ?resta3
          case hya3 => (intro w hSw; (try dsimp only at hSw); go_simp <;> with_reducible rfl)
          try simp only [Act.put, List.setIfInBounds_toArray, List.set_cons_zero, List.set_cons_succ]
          refine take_d (i := 4) (d := some 53) (v := ?_) rfl rfl (by kernel_rfl) (by kernel_rfl) (by kernel_rfl) (fun _ _ _ h => h) (Or.inl ⟨by first | rfl | (simp [*, Region.wanted, yielded]), ?hya4⟩) (by assumption) ?resta4
          case hya4 => (intro w hSw; (try dsimp only at hSw); go_simp <;> with_reducible rfl)
          try simp only [Act.put, List.setIfInBounds_toArray, List.set_cons_zero, List.set_cons_succ]
          refine take_d (i := 5) (d := some 54) (v := ?_) rfl rfl (by kernel_rfl) (by kernel_rfl) (by kernel_rfl) (fun _ _ _ h => h) (Or.inl ⟨by first | rfl | (simp [*, Region.wanted, yielded]), ?hya5⟩) (by assumption) ?resta5
          case hya5 => (intro w hSw; (try dsimp only at hSw); go_simp <;> with_reducible rfl)
          try simp only [Act.put, List.setIfInBounds_toArray, List.set_cons_zero, List.set_cons_succ]
          refine take_d (i := 6) (d := some 55) (v := ?_) rfl rfl (by kernel_rfl) (by kernel_rfl) (by kernel_rfl) (fun _ _ _ h => h) (Or.inl ⟨by first | rfl | (simp [*, Region.wanted, yielded]), ?hya6⟩) (by assumption) ?resta6
          case hya6 => (intro w hSw; (try dsimp only at hSw); go_simp <;> with_reducible rfl)
          try simp only [Act.put, List.setIfInBounds_toArray, List.set_cons_zero, List.set_cons_succ]
          refine take_d (i := 7) (d := some 56) (v := ?_) rfl rfl (by kernel_rfl) (by kernel_rfl) (by kernel_rfl) (fun _ _ _ h => h) (Or.inl ⟨by first | rfl | (simp [*, Region.wanted, yielded]), ?hya7⟩) (by assumption) ?resta7
          case hya7 => (intro w hSw; (try dsimp only at hSw); go_simp <;> with_reducible rfl)
          try simp only [Act.put, List.setIfInBounds_toArray, List.set_cons_zero, List.set_cons_succ]
          refine take_d (i := 8) (d := some 57) (v := ?_) rfl rfl (by kernel_rfl) (by kernel_rfl) (by kernel_rfl) (fun _ _ _ h => h) (Or.inl ⟨by first | rfl | (simp [*, Region.wanted, yielded]), ?hya8⟩) (by assumption) ?resta8
          case hya8 => (intro w hSw; (try dsimp only at hSw); go_simp <;> with_reducible rfl)
          try simp only [Act.put, List.setIfInBounds_toArray, List.set_cons_zero, List.set_cons_succ]
          refine wpAnyH_ready (rs := [9]) (by kernel_rfl) (by simp) ?_
          refine AllReadyH.cons (o := _) rfl (fun K hK => ?_) AllReadyH.nil
          go_simp
          go_at_call 71
          refine (HN.out _ (by first | (with_reducible exact hr) | (with_reducible exact hr.drew) | (with_reducible exact hr.drew.drew))).mono ?_
          rintro en w5 ⟨q5, rfl⟩
          go_wp2_with fail
          refine hK.out _ _ (HKb.out _ q5) (fun hHeld => ?_)
          clear hK K
          try simp only [Act.put, List.setIfInBounds_toArray, List.set_cons_zero, List.set_cons_succ]
          refine wpAnyH_ready (rs := [10]) (by kernel_rfl) (by simp) ?_
          refine AllReadyH.cons (o := _) rfl (fun K hK => ?_) AllReadyH.nil
          go_simp
          go_at_call 74
          refine (HI.out _ q5).mono ?_
          rintro en w6 ⟨rfl, hk6, m6, hm6, hs6, hlow6⟩
          go_wp2_with fail
          refine hK.out _ _ (HKt.out _ _ _ q5 hk6 hs6) (fun hHeld => ?_)
          clear hK K
          try simp only [Act.put, List.setIfInBounds_toArray, List.set_cons_zero, List.set_cons_succ]
          refine wpAnyH_done (by kernel_rfl) ?_ _
          go_simp
          go_simp
          repeat (rename _ ∧ _ => hh; clear hh)
          clear k1 k4 k5 e0 e1 e2 e3 e4 l1 l4 l5 lg l8 hr s1 HN HI HKb HKt HX8 HOn a1
          as_aux_lemma =>
            have HS6 := hid hs6
            have k1 := cell_of_one hs6.cOrd
            rw [HZL.out] at k1
            have a1 := arr_cell hs6.arr p (by rw [HZL.out]; exact hpo)
            have a2 := arr_cell hs6.arr p (by rw [HZL.out]; exact hql)
            have af := arr_free hs6.arr
            have S9 := hs6.swap HD.out p p
            rw [swapL_swapL o p p hpo hql] at S9
            have K9 := swap_keep (g := g) (b2 := b2) (b3 := b3) w6 (swapL o p p) p p
            have HK6 := hid (HK8.out.trans ((Keep3.of q5).trans hk6))
            have HL6 := hid hlow6
            clear hs6 hk6 q5 hlow6
            generalize oAt (swapL o p p) p = vp at *
            go_wp2_with fail
            go_region
            obtain ⟨wz2, hwz⟩ : ∃ wz2, ((w6.setCell ⟨g, p, none⟩ (.int .i64 vp)).setCell ⟨g, p, none⟩ (.int .i64 vp)) = wz2 := ⟨_, rfl⟩
            rw [hwz] at S9 K9
            have S10 := S9.below2 (Below.refl wz2.heap.size wz2).drew
            have K10 := hid (K9.trans (Keep3.of (g := g) (b2 := b2) (b3 := b3) (Below.refl wz2.heap.size wz2).drew))
            obtain ⟨wx, hwx⟩ : ∃ wx, wz2.drew = wx := ⟨_, rfl⟩
            rw [hwx] at S10 K10
            first
              | rw [hwz, hwx]
              | (rw [show (((w6.drew.setCell ⟨g, p, none⟩ (.int .i64 vp)).setCell ⟨g, p, none⟩ (.int .i64 vp))) = wz2.drew by rw [← hwz]; rfl, hwx])
              | (rw [show (((w6.setCell ⟨g, p, none⟩ (.int .i64 vp)).setCell ⟨g, p, none⟩ (.int .i64 vp))).drew = wz2.drew by rw [← hwz], hwx])
            clear hwx hwz S9 K9 a1 a2 af k1
            as_aux_lemma =>
              have HS10 := hid S10
              have HK10 := hid (HK6.out.trans K10.out)
              clear S10
              have HLk2 := hid (HLk.out.more hm6 (by rw [HQ.out]; exact HL6.out))
              go_wp2_with fail
              go_roundw
              case rel => exact ⟨k + 1, m6, by omega, by go_num, by omega, HS10, HLk2, HK10⟩
              case measure => simp [intOf]; omega
      · have n1 : p ≠ q := by omega
        have n2' : q ≠ p := by omega
        go_region
        obtain ⟨wz, hwz⟩ : ∃ wz, ((wr.setCell ⟨g, p, none⟩ (.int .i64 (oAt o q))).setCell ⟨g, q, none⟩ (.int .i64 (oAt o p))) = wz := ⟨_, rfl⟩
        rw [hwz] at S7 K7
        have S8 := S7.below2 (Below.refl wz.heap.size wz).drew
        have K8 := hid (K7.trans (Keep3.of (g := g) (b2 := b2) (b3 := b3) (Below.refl wz.heap.size wz).drew))
        obtain ⟨wy, hwy⟩ : ∃ wy, wz.drew = wy := ⟨_, rfl⟩
        rw [hwy] at S8 K8
        first
          | rw [hwz, hwy]
          | (rw [show (((wr.drew.setCell ⟨g, p, none⟩ (.int .i64 (oAt o q))).setCell ⟨g, q, none⟩ (.int .i64 (oAt o p)))) = wz.drew by rw [← hwz]; rfl, hwy])
          | (rw [show (((wr.setCell ⟨g, p, none⟩ (.int .i64 (oAt o q))).setCell ⟨g, q, none⟩ (.int .i64 (oAt o p)))).drew = wz.drew by rw [← hwz], hwy])
        clear hwy hwz S7 K7 a1 a2 af k1
        as_aux_lemma =>
          have HS8 := hid S8
          have HK8 := hid (HKr.out.trans K8.out)
          have hoz := swapL_ord HOrd.out (i := p) (j := q) (by omega) (by omega)
          have hzl := swapL_len o p q
          have hm8 := hoz.mem (oAt_mem2 (swapL o p q) p (by omega))
          obtain ⟨n, hn⟩ := Int.eq_ofNat_of_zero_le hm8.1
          have a1 := arr_cell S8.arr p (by omega)
          rw [hn] at a1
          have k1 := cell_of_one S8.cOrd
          rw [hzl] at k1
          have k4 := cell_of_one S8.cTry
          have k5 := cell_of_one S8.cL
          unfold tryV at k4
          have hbx8 : wy.heap[w.heap.size]? = wB.heap[w.heap.size]? := HK8.out.block _ lt8 (by omega) (by omega) (by omega)
          have X8 : LBox wy w.heap.size x0 x1 c x3 pk := by unfold LBox; rw [hbx8]; exact HX.out
          obtain ⟨e0, e1, e2, e3, e4⟩ := X8.cells
          have l1 : b1 < wy.heap.size := lt_of_block S8.cOrd
          have l4 : b4 < wy.heap.size := lt_of_block S8.cTry
          have l5 : b5 < wy.heap.size := lt_of_block S8.cL
          have lg := lt_of_block S8.arr
          have l8 := X8.lt
          have hT8 := HTk.out q (by omega) (by omega)
          have hy : btAt (seqO l (swapL o p q)) p = btAt l n := by rw [seqO_at l _ p (by omega), hn]; rfl
          have HN0 := (fun W (hb : Below wy.heap.size wy W) => kNext_any x0 x1 x3 c pk a l cap n W ((HBt.out.below S8.below).below hb) (by omega) (by omega) (by omega) (HL.out.at_ n (by omega)))
          have HN1 : ∀ W, Below wy.heap.size wy W → Calls Try.prog 71 #[.agg #[.int .i64 x0, .int .i64 x1, .int .i64 c, .int .i64 x3, .int .i64 pk], .slice a l.length cap, .int .i64 (n : Int)] W (fun en w' => Below wy.heap.size wy w' ∧ en = .returned (.agg #[.int .i64 (n : Int), .int .i64 c, .int .i64 (cookTo (seqO l (swapL o p q)) (p + 1)), .int .i64 (max (c + (btAt l n).1) pk), .int .i64 (packTo (seqO l (swapL o p q)) (p + 1))])) := fun W hb => (HN0 W hb).mono fun e w' h => by
            refine ⟨hb.trans (h.1.mono hb.size), h.2.trans ?_⟩
            have q1 : cookTo (seqO l (swapL o p q)) (p + 1) = c + (btAt l n).1 := by rw [cookTo, hy, hT8.1]
            have q2 : packTo (seqO l (swapL o p q)) (p + 1) = max (c + (btAt l n).1) pk + (btAt l n).2 := by rw [packTo, q1, hy, hT8.2]
            rw [q1, q2]
          have HN := hid HN1
          have HI := hid (fun W (hb : Below wy.heap.size wy W) => HIH.out W (swapL o p q) mk (n : Int) c (max (c + (btAt l n).1) pk) (HS8.out.below2 hb) hoz)
          have HOz := hid hoz
          have HZL := hid hzl
          have hr : Below wy.heap.size wy wy := Below.refl _ _
          have s1 : IntKind.i64.wrap ((p : Int) + 1) = (p : Int) + 1 := IntWalk.i64_in _ (by omega)
          have HX8 := hid X8
          have HOn := hid hn
          clear HN0 HN1 hy hT8 hn hm8 S8 X8 hbx8 hoz hzl
          have HKb := hid (fun W (bq : Below wy.heap.size wy W) => (show W.cell? ⟨b4, 0, none⟩ = some (.func (.func 74) #[] #[.pointer (some ⟨b1, 0, none⟩), .pointer (some ⟨b2, 0, none⟩), .pointer (some ⟨b3, 0, none⟩), .pointer (some ⟨b4, 0, none⟩), .pointer (some ⟨b5, 0, none⟩)]) ∧ W.cell? ⟨b5, 0, none⟩ = some (.slice a l.length cap) ∧ W.cell? ⟨b1, 0, none⟩ = some (.slice (some ⟨g, 0, none⟩) o.length cp) ∧ W.cell? ⟨g, p, none⟩ = some (.int .i64 (n : Int)) ∧ W.cell? ⟨w.heap.size, 0, none⟩ = some (.int .i64 x0) ∧ W.cell? ⟨w.heap.size, 1, none⟩ = some (.int .i64 x1) ∧ W.cell? ⟨w.heap.size, 2, none⟩ = some (.int .i64 c) ∧ W.cell? ⟨w.heap.size, 3, none⟩ = some (.int .i64 x3) ∧ W.cell? ⟨w.heap.size, 4, none⟩ = some (.int .i64 pk) from
            ⟨(bq.cell (p := ⟨b4, 0, none⟩) l4).trans k4, (bq.cell (p := ⟨b5, 0, none⟩) l5).trans k5, (bq.cell (p := ⟨b1, 0, none⟩) l1).trans k1, (bq.cell (p := ⟨g, p, none⟩) lg).trans a1, (bq.cell (p := ⟨w.heap.size, 0, none⟩) l8).trans e0, (bq.cell (p := ⟨w.heap.size, 1, none⟩) l8).trans e1, (bq.cell (p := ⟨w.heap.size, 2, none⟩) l8).trans e2, (bq.cell (p := ⟨w.heap.size, 3, none⟩) l8).trans e3, (bq.cell (p := ⟨w.heap.size, 4, none⟩) l8).trans e4⟩))
          have HKt := hid (fun W V mm (bq : Below wy.heap.size wy W) (hk : Keep3 g b2 b3 W V) (hs : TryS W0 a l cap g b1 b2 b3 b4 b5 cp V (swapL o p q) mm) => (show V.cell? ⟨b4, 0, none⟩ = some (.func (.func 74) #[] #[.pointer (some ⟨b1, 0, none⟩), .pointer (some ⟨b2, 0, none⟩), .pointer (some ⟨b3, 0, none⟩), .pointer (some ⟨b4, 0, none⟩), .pointer (some ⟨b5, 0, none⟩)]) ∧ V.cell? ⟨b5, 0, none⟩ = some (.slice a l.length cap) ∧ V.cell? ⟨b1, 0, none⟩ = some (.slice (some ⟨g, 0, none⟩) o.length cp) ∧ V.cell? ⟨g, p, none⟩ = some (.int .i64 (n : Int)) ∧ V.cell? ⟨w.heap.size, 0, none⟩ = some (.int .i64 x0) ∧ V.cell? ⟨w.heap.size, 1, none⟩ = some (.int .i64 x1) ∧ V.cell? ⟨w.heap.size, 2, none⟩ = some (.int .i64 c) ∧ V.cell? ⟨w.heap.size, 3, none⟩ = some (.int .i64 x3) ∧ V.cell? ⟨w.heap.size, 4, none⟩ = some (.int .i64 pk) from by
            have hb := hk.block w.heap.size (Nat.lt_of_lt_of_le l8 bq.size) (by omega) (by omega) (by omega)
            have XV : LBox V w.heap.size x0 x1 c x3 pk := by
              have := HX8.out
              unfold LBox at this ⊢
              rw [hb, bq.block _ l8]; exact this
            obtain ⟨f0, f1, f2, f3, f4⟩ := XV.cells
            have aV := arr_cell hs.arr p (by rw [HZL.out]; exact hpo)
            rw [HOn.out] at aV
            have kV := cell_of_one hs.cOrd
            rw [HZL.out] at kV
            exact ⟨cell_of_one hs.cTry, cell_of_one hs.cL, kV, aV, f0, f1, f2, f3, f4⟩))
          generalize cookTo (seqO l (swapL o p q)) (p + 1) = c1 at HN HI
          generalize packTo (seqO l (swapL o p q)) (p + 1) = p1 at HN HI
          generalize max (c + (btAt l n).1) pk = m1 at HN HI
          go_wp2_with fail
          refine wp_region_held_drew (S := (fun W => W.cell? ⟨b4, 0, none⟩ = some (.func (.func 74) #[] #[.pointer (some ⟨b1, 0, none⟩), .pointer (some ⟨b2, 0, none⟩), .pointer (some ⟨b3, 0, none⟩), .pointer (some ⟨b4, 0, none⟩), .pointer (some ⟨b5, 0, none⟩)]) ∧ W.cell? ⟨b5, 0, none⟩ = some (.slice a l.length cap) ∧ W.cell? ⟨b1, 0, none⟩ = some (.slice (some ⟨g, 0, none⟩) o.length cp) ∧ W.cell? ⟨g, p, none⟩ = some (.int .i64 (n : Int)) ∧ W.cell? ⟨w.heap.size, 0, none⟩ = some (.int .i64 x0) ∧ W.cell? ⟨w.heap.size, 1, none⟩ = some (.int .i64 x1) ∧ W.cell? ⟨w.heap.size, 2, none⟩ = some (.int .i64 c) ∧ W.cell? ⟨w.heap.size, 3, none⟩ = some (.int .i64 x3) ∧ W.cell? ⟨w.heap.size, 4, none⟩ = some (.int .i64 pk))) (by kernel_rfl) (HKb.out _ hr.drew) (fun hHeld => ?_)
          refine take_d (i := 0) (d := some 49) (v := ?_) rfl rfl (by kernel_rfl) (by kernel_rfl) (by kernel_rfl) (fun _ _ _ h => h) (Or.inl ⟨by first | rfl | (simp [*, Region.wanted, yielded]), ?hyb0⟩) (by assumption) ?restb0
          case hyb0 => (intro w hSw; (try dsimp only at hSw); go_simp <;> with_reducible rfl)
          try simp only [Act.put, List.setIfInBounds_toArray, List.set_cons_zero, List.set_cons_succ]
          refine take_d (i := 1) (d := some 50) (v := ?_) rfl rfl (by kernel_rfl) (by kernel_rfl) (by kernel_rfl) (fun _ _ _ h => h) (Or.inl ⟨by first | rfl | (simp [*, Region.wanted, yielded]), ?hyb1⟩) (by assumption) ?restb1
          case hyb1 => (intro w hSw; (try dsimp only at hSw); go_simp <;> with_reducible rfl)
          try simp only [Act.put, List.setIfInBounds_toArray, List.set_cons_zero, List.set_cons_succ]
          refine take_d (i := 2) (d := some 51) (v := ?_) rfl rfl (by kernel_rfl) (by kernel_rfl) (by kernel_rfl) (fun _ _ _ h => h) (Or.inl ⟨by first | rfl | (simp [*, Region.wanted, yielded]), ?hyb2⟩) (by assumption) ?restb2
          case hyb2 => (intro w hSw; (try dsimp only at hSw); go_simp <;> with_reducible rfl)
          try simp only [Act.put, List.setIfInBounds_toArray, List.set_cons_zero, List.set_cons_succ]
          refine take_d (i := 3) (d := some 52) (v := ?_) rfl rfl (by kernel_rfl) (by kernel_rfl) (by kernel_rfl) (fun _ _ _ h => h) (Or.inl ⟨by first | rfl | (simp [*, Region.wanted, yielded]), ?hyb3⟩) (by assumption) ?restb3
          case hyb3 => (intro w hSw; (try dsimp only at hSw); go_simp <;> with_reducible rfl)
          try simp only [Act.put, List.setIfInBounds_toArray, List.set_cons_zero, List.set_cons_succ]
          refine take_d (i := 4) (d := some 53) (v := ?_) rfl rfl (by kernel_rfl) (by kernel_rfl) (by kernel_rfl) (fun _ _ _ h => h) (Or.inl ⟨by first | rfl | (simp [*, Region.wanted, yielded]), ?hyb4⟩) (by assumption) ?restb4
          case hyb4 => (intro w hSw; (try dsimp only at hSw); go_simp <;> with_reducible rfl)
          try simp only [Act.put, List.setIfInBounds_toArray, List.set_cons_zero, List.set_cons_succ]
          refine take_d (i := 5) (d := some 54) (v := ?_) rfl rfl (by kernel_rfl) (by kernel_rfl) (by kernel_rfl) (fun _ _ _ h => h) (Or.inl ⟨by first | rfl | (simp [*, Region.wanted, yielded]), ?hyb5⟩) (by assumption) ?restb5
          case hyb5 => (intro w hSw; (try dsimp only at hSw); go_simp <;> with_reducible rfl)
          try simp only [Act.put, List.setIfInBounds_toArray, List.set_cons_zero, List.set_cons_succ]
          refine take_d (i := 6) (d := some 55) (v := ?_) rfl rfl (by kernel_rfl) (by kernel_rfl) (by kernel_rfl) (fun _ _ _ h => h) (Or.inl ⟨by first | rfl | (simp [*, Region.wanted, yielded]), ?hyb6⟩) (by assumption) ?restb6
          case hyb6 => (intro w hSw; (try dsimp only at hSw); go_simp <;> with_reducible rfl)
          try simp only [Act.put, List.setIfInBounds_toArray, List.set_cons_zero, List.set_cons_succ]
          refine take_d (i := 7) (d := some 56) (v := ?_) rfl rfl (by kernel_rfl) (by kernel_rfl) (by kernel_rfl) (fun _ _ _ h => h) (Or.inl ⟨by first | rfl | (simp [*, Region.wanted, yielded]), ?hyb7⟩) (by assumption) ?restb7
          case hyb7 => (intro w hSw; (try dsimp only at hSw); go_simp <;> with_reducible rfl)
          try simp only [Act.put, List.setIfInBounds_toArray, List.set_cons_zero, List.set_cons_succ]
          refine take_d (i := 8) (d := some 57) (v := ?_) rfl rfl (by kernel_rfl) (by kernel_rfl) (by kernel_rfl) (fun _ _ _ h => h) (Or.inl ⟨by first | rfl | (simp [*, Region.wanted, yielded]), ?hyb8⟩) (by assumption) ?restb8
          case hyb8 => (intro w hSw; (try dsimp only at hSw); go_simp <;> with_reducible rfl)
          try simp only [Act.put, List.setIfInBounds_toArray, List.set_cons_zero, List.set_cons_succ]
          refine wpAnyH_ready (rs := [9]) (by kernel_rfl) (by simp) ?_
          refine AllReadyH.cons (o := _) rfl (fun K hK => ?_) AllReadyH.nil
          go_simp
          go_at_call 71
          refine (HN.out _ (by first | (with_reducible exact hr) | (with_reducible exact hr.drew) | (with_reducible exact hr.drew.drew))).mono ?_
          rintro en w5 ⟨q5, rfl⟩
          go_wp2_with fail
          refine hK.out _ _ (HKb.out _ q5) (fun hHeld => ?_)
          clear hK K
          try simp only [Act.put, List.setIfInBounds_toArray, List.set_cons_zero, List.set_cons_succ]
          refine wpAnyH_ready (rs := [10]) (by kernel_rfl) (by simp) ?_
          refine AllReadyH.cons (o := _) rfl (fun K hK => ?_) AllReadyH.nil
          go_simp
          go_at_call 74
          refine (HI.out _ q5).mono ?_
          rintro en w6 ⟨rfl, hk6, m6, hm6, hs6, hlow6⟩
          go_wp2_with fail
          refine hK.out _ _ (HKt.out _ _ _ q5 hk6 hs6) (fun hHeld => ?_)
          clear hK K
          try simp only [Act.put, List.setIfInBounds_toArray, List.set_cons_zero, List.set_cons_succ]
          refine wpAnyH_done (by kernel_rfl) ?_ _
          go_simp
          go_simp
          repeat (rename _ ∧ _ => hh; clear hh)
          clear k1 k4 k5 e0 e1 e2 e3 e4 l1 l4 l5 lg l8 hr s1 HN HI HKb HKt HX8 HOn a1
          as_aux_lemma =>
            have HS6 := hid hs6
            have k1 := cell_of_one hs6.cOrd
            rw [HZL.out] at k1
            have a1 := arr_cell hs6.arr p (by rw [HZL.out]; exact hpo)
            have a2 := arr_cell hs6.arr q (by rw [HZL.out]; exact hql)
            have af := arr_free hs6.arr
            have S9 := hs6.swap HD.out p q
            rw [swapL_swapL o p q hpo hql] at S9
            have K9 := swap_keep (g := g) (b2 := b2) (b3 := b3) w6 (swapL o p q) p q
            have HK6 := hid (HK8.out.trans ((Keep3.of q5).trans hk6))
            have HL6 := hid hlow6
            clear hs6 hk6 q5 hlow6
            generalize oAt (swapL o p q) p = vp at *
            generalize oAt (swapL o p q) q = vq at *
            go_wp2_with fail
            go_region
            obtain ⟨wz2, hwz⟩ : ∃ wz2, ((w6.setCell ⟨g, p, none⟩ (.int .i64 vq)).setCell ⟨g, q, none⟩ (.int .i64 vp)) = wz2 := ⟨_, rfl⟩
            rw [hwz] at S9 K9
            have S10 := S9.below2 (Below.refl wz2.heap.size wz2).drew
            have K10 := hid (K9.trans (Keep3.of (g := g) (b2 := b2) (b3 := b3) (Below.refl wz2.heap.size wz2).drew))
            obtain ⟨wx, hwx⟩ : ∃ wx, wz2.drew = wx := ⟨_, rfl⟩
            rw [hwx] at S10 K10
            first
              | rw [hwz, hwx]
              | (rw [show (((w6.drew.setCell ⟨g, p, none⟩ (.int .i64 vq)).setCell ⟨g, q, none⟩ (.int .i64 vp))) = wz2.drew by rw [← hwz]; rfl, hwx])
              | (rw [show (((w6.setCell ⟨g, p, none⟩ (.int .i64 vq)).setCell ⟨g, q, none⟩ (.int .i64 vp))).drew = wz2.drew by rw [← hwz], hwx])
            clear hwx hwz S9 K9 a1 a2 af k1
            as_aux_lemma =>
              have HS10 := hid S10
              have HK10 := hid (HK6.out.trans K10.out)
              clear S10
              have HLk2 := hid (HLk.out.more hm6 (by rw [HQ.out]; exact HL6.out))
              go_wp2_with fail
              go_roundw
              case rel => exact ⟨k + 1, m6, by omega, by go_num, by omega, HS10, HLk2, HK10⟩
              case measure => simp [intOf]; omega
    · have hke : k = o.length - p := by omega
      have hlt' : (o.length : Int) - (p : Int) ≤ (k : Int) := by omega
      have HLa := hid (LowK.all HOrd.out hpl (by rw [← HOL.out, ← hke]; exact HLk.out))
      have HKa := hid (HK.out.trans HKr.out)
      clear hke
      go_wp2_with fail
      refine bodyPost_end (v := .tuple #[]) (by simp [results, Try.results74, go_sem]) rfl ⟨rfl, HKa.out, mk, hmk, HSr.out, HLa.out⟩
theorem try_any {W0 : World} {a : Option Addr} {l : List Bt} {cap g b1 b2 b3 b4 b5 cp : Nat} (hD : Dist W0.heap.size g b1 b2 b3 b4 b5) (hl : BtsOk l) (hB : Bts W0 a l) (d : Nat) : ∀ (p : Nat), p + d = l.length → ∀ (w : World) (o : List Int) (m x0 x1 x3 : Int), TryS W0 a l cap g b1 b2 b3 b4 b5 cp w o m → IsOrd o l.length →
    Calls Try.prog 74 #[.int .i64 (p : Int), .agg #[.int .i64 x0, .int .i64 x1, .int .i64 (cookTo (seqO l o) p), .int .i64 x3, .int .i64 (packTo (seqO l o) p)], .pointer (some ⟨b1, 0, none⟩), .pointer (some ⟨b2, 0, none⟩), .pointer (some ⟨b3, 0, none⟩), .pointer (some ⟨b4, 0, none⟩), .pointer (some ⟨b5, 0, none⟩)] w (TryR W0 a l cap g b1 b2 b3 b4 b5 cp w o m p) := by
  induction d with
  | zero =>
    intro p hp w o m x0 x1 x3 hS ho
    obtain rfl : p = l.length := by omega
    exact try_end hD hl hB w o m x0 x1 _ x3 _ hS ho (by rw [timeO_to, ho.len])
  | succ d ih =>
    intro p hp w o m x0 x1 x3 hS ho
    refine try_step hD hl hB (by omega) (fun w o m x0 x1 x3 hS ho => ?_) w o m x0 x1 x3 hS ho
    have := ih (p + 1) (by omega) w o m x0 x1 x3 hS ho
    rwa [show ((p + 1 : Nat) : Int) = (p : Int) + 1 by omega] at this
end Go.Proofs.Ythogliblgcccnaa
