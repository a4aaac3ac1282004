/- The smallest tree: package van: the walk. -/
import Derived.Test.YtbffdpcogfmomaaVaTree
set_option linter.unusedVariables false
namespace Go.Proofs.Ytbffdpcogfmomaa
open Go.RowKit

/-- The length of a slice. -/
def lenV : Value → Nat
  | .slice _ n _ => n
  | _ => 0
theorem lenV_slice (a : Option Addr) (n c : Nat) : lenV (.slice a n c) = n := rfl
theorem vNear_row (w : World) (b2 o2 c n : Nat) (row : List Int) (hrow : row.length = n) (hI : Ints w (some ⟨b2, o2, none⟩) row) (A : Option Addr) (R : List Int) (c2 : Nat) (hR : Ints w A R) (h0 : 0 < R.length) (hl : R.length ≤ 100) (hin : ∀ x ∈ R, 0 ≤ x ∧ x < n) :
  Calls Try.prog 69 #[.slice (some ⟨b2, o2, none⟩) n c, .slice A R.length c2] w (fun en w' => ∃ q b, w' = w.drewN q ∧ en = .returned (.int .i64 ((b : Nat) : Int)) ∧ NearI row R b) := by
  subst hrow
  exact vNearest_any _ A row R c c2 w hI hR h0 hl hin
/-- What tree answers. -/
def TreeV (t : Tbl) (n f : Nat) (w : World) (en : Ending) (w' : World) : Prop :=
  Below w.heap.size w w' ∧ ∃ (m : Int) (ds : List Int), en = .returned (.tuple #[.int .i64 m, .slice (some ⟨w.heap.size, 0, none⟩) n n]) ∧ Mst t (plL f n) f m ∧ w'.heap[w.heap.size]? = some (.cells (cellsV ds) 3 (0, 0)) ∧ ds.length = n ∧ (∀ x ∈ ds, 0 ≤ x ∧ x ≤ 12) ∧ -21000 ≤ m ∧ m ≤ 21000
set_option maxRecDepth 100000 in
set_option maxHeartbeats 8000000 in
theorem vTree_any (a : Option Addr) (t : Tbl) (cap n f : Nat) (w : World) (h : TabAt w a t) (hs : Sq t n) (hf : f < n) : Calls Try.prog 70 #[.slice a n cap, .int .i64 (f : Int)] w (TreeV t n f w) := by
  obtain ⟨i0, hinf, hz0, hz1, hz2⟩ := info_parts int_info
  have hn7 := hs.le
  obtain ⟨b, off, rfl, hc0⟩ := h.sq hs (by omega)
  have HC := hid (fun (w' : World) (hb : Below w.heap.size w w') => show ∀ i, i < n → ∃ b2 o2 c, w'.cell? ⟨b, off + i, none⟩ = some (.slice (some ⟨b2, o2, none⟩) n c) ∧ Ints w' (some ⟨b2, o2, none⟩) (tR t i) ∧ ∀ j, j < n → w'.cell? ⟨b2, o2 + j, none⟩ = some (.int .i64 (tA t i j)) from fun i hi => by
    obtain ⟨b2, o2, c, h1, h2, h3⟩ := hc0 i hi
    exact ⟨b2, o2, c, by rw [hb.cell (cell_lt h1)]; exact h1, h2.below hb, fun j hj => by rw [hb.cell (cell_lt (h3 j hj))]; exact h3 j hj⟩)
  have HQ := hid hs
  have hmk := make_ints n (by omega)
  have ez : Array.replicate n (Value.int .i64 0) = cellsV (List.replicate n 0) := by simp [cellsV]
  have hX1 : (w.alloc (.cells (Array.replicate n (Value.int .i64 0)) 3)).heap.size = w.heap.size + 1 := by simp
  have Hz : Hid (Below w.heap.size w (((w.alloc (.cells (Array.replicate n (Value.int .i64 0)) 3)).alloc (.cells #[.int .i64 (f : Int)] 3)).drew)) := hid ((((Below.refl w.heap.size w)).alloc (Nat.le_refl _) _).alloc (by simp) _).drew
  have Hd : Hid ((((w.alloc (.cells (Array.replicate n (Value.int .i64 0)) 3)).alloc (.cells #[.int .i64 (f : Int)] 3)).drew).heap[w.heap.size]? = some (.cells (cellsV (List.replicate n 0)) 3 (0, 0))) := by
    unfold Hid
    show ((w.alloc (.cells (Array.replicate n (Value.int .i64 0)) 3)).alloc (.cells #[.int .i64 (f : Int)] 3)).heap[w.heap.size]? = _
    rw [((Below.refl _ _).alloc (Nat.le_refl _) _).block _ (by simp), ez]; exact heap_alloc_new w _
  have Hc : Hid (Own (((w.alloc (.cells (Array.replicate n (Value.int .i64 0)) 3)).alloc (.cells #[.int .i64 (f : Int)] 3)).drew) (w.heap.size + 1) (.slice (some ⟨w.heap.size + 1, 0, none⟩) 1 1) [(f : Int)]) := by
    have hh : (((w.alloc (.cells (Array.replicate n (Value.int .i64 0)) 3)).alloc (.cells #[.int .i64 (f : Int)] 3)).drew).heap[w.heap.size + 1]? = some (.cells (cellsV [(f : Int)]) 3 (0, 0)) := by
      rw [← hX1]; exact heap_alloc_new (w.alloc (.cells (Array.replicate n (Value.int .i64 0)) 3)) _
    exact arrV_own hh (by simp) _ (Nat.le_refl _)
  have hsz : (((w.alloc (.cells (Array.replicate n (Value.int .i64 0)) 3)).alloc (.cells #[.int .i64 (f : Int)] 3)).drew).heap.size = w.heap.size + 2 := by simp
  clear ez hX1
  have sf : IntKind.i64.wrap ((f : Int) + 1) = (f : Int) + 1 := IntWalk.i64_in _ (by omega)
  clear h hc0 hs
  go_enter Try.func70, Try.ntmps70
  go_wp2_with fail
  go_region
  go_wp2_with fail
  generalize ((w.alloc (.cells (Array.replicate n (Value.int .i64 0)) 3)).alloc (.cells #[.int .i64 (f : Int)] 3)).drew = w2 at *
  go_loopw [9, 10] (fun v i wr => ∃ (k : Nat), f + 1 + k ≤ n ∧ i = .int .i64 (f + 1 + k : Nat) ∧ Own wr (w.heap.size + 2) v (restK f k) ∧ Below (w.heap.size + 2) w2 wr) (fun _ i _ => n - (intOf i).toNat)
  case atStart => exact ⟨0, by omega, by go_num, Own.nil _ _, Below.refl _ _⟩
  case round =>
    obtain ⟨k, hk, rfl, hown, hB⟩ := hrel
    have hlen := restK_len f k
    have hsr := hB.size
    by_cases hlt : f + 1 + k < n
    · have HT := hid (restK_succ f k)
      have hlt' : ((f + 1 + k : Nat) : Int) < (n : Int) := by omega
      generalize hpre : restK f k = pre at *
      clear hpre
      generalize hq : f + 1 + k = q at *
      go_wp2_with (at_builtin; refine wpList_append_own _ rfl _ _ 23 rfl (w.heap.size + 2) 3 i0 (.int .i64 0) 1 8 Try.underlying23 hinf hz0 hz1 hz2 rfl (by decide) _ _ _ rfl (hown.alloc _) ⟨wr.heap.size, 0, none⟩ 1 1 [.int .i64 (q : Int)] rfl rfl ?c1 ?c2 ?c3 ?c4 ?c5 ?_)
      case c1 => exact cell_one_new _ _ _
      case c2 => simp [Value.oneCell']
      case c3 => unfold maxLen; omega
      case c4 => omega
      case c5 => simp; omega
      intro v' w4 hown2 hgrow _
      have p4 := (hB.alloc (by omega) _).grown hgrow (by simp; omega) (fun q hq => by have := (hown.lt q hq).1; omega)
      clear hgrow hown
      go_wp2
      go_roundw
      case rel => exact ⟨k + 1, by omega, by go_num, by rw [HT.out]; unfold Own; rw [List.length_append, List.map_append, hlen]; simpa using hown2, p4⟩
      case measure => simp [intOf]; omega
    · have hkn : k = n - f - 1 := by omega
      have hge : (n : Int) ≤ ((f + 1 + k : Nat) : Int) := by omega
      rw [hkn] at hown
      have HS0 : Hid (TrS w t n f w.heap.size wr [(f : Int)] (restK f (n - f - 1)) (List.replicate n 0) 0 (.slice (some ⟨w.heap.size + 1, 0, none⟩) 1 1) u9) := by
        refine ⟨Hz.out.trans (hB.mono (by omega)), by rw [hB.block _ (by omega)]; exact Hd.out, ?_, own_weak hown (by omega), Grow.start (List.Perm.refl _), by simp, fun x hx => ?_, by simp⟩
        · have := Hc.out
          obtain ⟨h1, h2⟩ := this
          refine ⟨h1, ?_⟩
          rcases h2 with ⟨h2, _⟩ | ⟨g', cap', cur, hv, hg', hh, r⟩
          · simp at h2
          · simp only [Value.slice.injEq, Option.some.injEq, Addr.mk.injEq, and_true] at hv
            obtain ⟨rfl, hl, rfl⟩ := hv
            exact .inr ⟨w.heap.size + 1, 1, cur, by rw [hl], hg', by rw [hB.block _ (by omega)]; exact hh, r⟩
        · have := (List.mem_replicate.1 hx).2; subst this; simp
      clear Hz Hd Hc hown hB hlen hsr hkn
      go_wp2_with fail
      go_loopw [6, 8, 9] (fun s vc vl wr => ∃ (S R ds : List Int) (m : Int) (A : Option Addr) (c : Nat), s = .int .i64 m ∧ vl = .slice A R.length c ∧ Hid (TrS w t n f w.heap.size wr S R ds m vc vl)) (fun _ _ vl _ => lenV vl)
      case atStart =>
        obtain ⟨A, c, hv⟩ := own_slice HS0.out.lef
        exact ⟨[(f : Int)], restK f (n - f - 1), List.replicate n 0, 0, A, c, rfl, hv, HS0⟩
      case round =>
        obtain ⟨S, R, ds, m, A, c, rfl, rfl, HS⟩ := hrel
        obtain ⟨i1, i2, i3, i4, i5⟩ := HS.out.inV hf
        clear HS0
        obtain ⟨gc, cc, curc, rfl, hgc, _⟩ := own_some HS.out.con i4
        by_cases h0 : 0 < R.length
        · obtain ⟨gl, cl, curl, hv, hgl, _⟩ := own_some HS.out.lef h0
          simp only [Value.slice.injEq, true_and] at hv
          obtain ⟨rfl, rfl⟩ := hv
          have hRl : R.length ≤ 7 := by omega
          have hSl : S.length ≤ 7 := by omega
          have HIR := hid (own_intsG HS.out.lef (by omega) (fun x hx => by have := i2 x hx; omega))
          have HIS := hid (own_intsG HS.out.con (by omega) (fun x hx => by have := i1 x hx; omega))
          have I1 := hid i1
          have I2 := hid (show ∀ x ∈ R, 0 ≤ x ∧ x < n from fun x hx => by have := i2 x hx; omega)
          have hrin := HS.out.grow.rin
          have HRin := hid hrin
          have I5 := hid i5
          clear i1 i2 i3 i5 hrin
          generalize wr = wo at *
          obtain ⟨b2, o2, c2, g1, gI, _⟩ := HC.out wo HS.out.below f hf
          have HN := hid (vNear_row wo b2 o2 c2 n (tR t f) (HQ.out.rows f hf) gI (some ⟨gl, 0, none⟩) R c HIR.out h0 (by omega) I2.out)
          have hf1 : (f : Int) < (n : Int) := by omega
          clear gI
          go_wp2_with fail
          refine HN.out.mono ?_
          rintro e w3 ⟨q0, bb0, hw3, rfl, hN0⟩
          have HW3 := hid hw3
          have HN0 := hid hN0.lt
          clear hN0 hw3 g1 HN
          go_wp2_with fail
          go_loopw [11, 12, 46] (fun vx vb i wr => ∃ (k bb q : Nat) (x : Int), k ≤ S.length ∧ i = .int .i64 k ∧ vx = .int .i64 x ∧ vb = .int .i64 bb ∧ Hid (x ∈ S ∧ bb < R.length ∧ (∀ i, i < k → ∀ y ∈ R, tA t x (vAt R bb) ≤ tA t (vAt S i) y)) ∧ Hid (wr = wo.drewN q)) (fun _ _ i _ => S.length - (intOf i).toNat)
          case atStart => exact ⟨0, bb0, q0, f, Nat.zero_le _, rfl, rfl, rfl, ⟨HRin.out, HN0.out, fun i hi => by omega⟩, HW3⟩
          case round =>
            obtain ⟨k, bb, q, x, hk, rfl, rfl, rfl, HM, HWr⟩ := hrel
            clear HN0 HW3
            have hbl := HM.out.2.1
            have hbw := hid (show Below wo.heap.size wo wr by rw [HWr.out]; exact below_drewN (Below.refl _ _) _)
            by_cases hlt : k < S.length
            · obtain ⟨bS, oS, heS, hcS⟩ := (HIS.out.below hbw.out).at' i4
              cases heS
              have c1 := hcS k hlt
              rw [Nat.zero_add, show S[k]?.getD 0 = vAt S k from rfl] at c1
              have m1 := I1.out _ (vAt_mem hlt)
              have m2 := I1.out _ HM.out.1
              have HM1 := hid (show ∀ y, y ∈ R → ∀ bn, NearI (tR t (vAt S k).toNat) R bn → tA t (vAt S k) (vAt R bn) ≤ tA t (vAt S k) y from fun y hy bn hN => by
                obtain ⟨j, hj, rfl⟩ := mem_vAt hy
                exact hN.le j hj)
              have HMm := hid (vAt_mem hlt)
              have HK := hid (show ∀ i, i < k + 1 → i < k ∨ vAt S i = vAt S k from fun i hi => by
                rcases Nat.lt_or_ge i k with h | h
                · exact .inl h
                · right; rw [show i = k by omega])
              clear hcS
              generalize vAt S k = px at *
              obtain ⟨pn, rfl⟩ := Int.eq_ofNat_of_zero_le (show 0 ≤ px by omega)
              obtain ⟨xn, rfl⟩ := Int.eq_ofNat_of_zero_le (show 0 ≤ x by omega)
              have hpn : pn < n := by omega
              have hxn : xn < n := by omega
              rw [Int.toNat_natCast] at HM1
              obtain ⟨b2, o2, c2, g1, gI, _⟩ := HC.out wr (HS.out.below.trans (hbw.out.mono (by have := HS.out.below.size; omega))) pn hpn
              have HN := hid (vNear_row wr b2 o2 c2 n (tR t pn) (HQ.out.rows pn hpn) gI (some ⟨gl, 0, none⟩) R c (HIR.out.below hbw.out) h0 (by omega) I2.out)
              have q1 : (pn : Int) < (n : Int) := by omega
              clear gI m1 m2
              go_wp2_with fail
              refine HN.out.mono ?_
              rintro e w5 ⟨q5, bn, hw5, rfl, hN5⟩
              have HW5 := hid (show w5 = wo.drewN (q + q5) by rw [hw5, HWr.out, World.drewN_drewN])
              have HN5 := hid hN5
              have hbnl := hN5.lt
              have hb5 : Below wo.heap.size wo w5 := by rw [HW5.out]; exact below_drewN (Below.refl _ _) _
              obtain ⟨bR, oR, heR, hcR⟩ := (HIR.out.below hb5).at' h0
              cases heR
              have r1 := hcR bn hbnl
              have r2 := hcR bb hbl
              rw [Nat.zero_add, show R[bn]?.getD 0 = vAt R bn from rfl] at r1
              rw [Nat.zero_add, show R[bb]?.getD 0 = vAt R bb from rfl] at r2
              have y1 := I2.out _ (vAt_mem hbnl)
              have y2 := I2.out _ (vAt_mem hbl)
              have HB5 := hid (HS.out.below.trans (hb5.mono HS.out.below.size))
              have HY := hid (show tA t pn (vAt R bn) < tA t xn (vAt R bb) → ((pn : Int) ∈ S ∧ bn < R.length ∧ (∀ i, i < k + 1 → ∀ y ∈ R, tA t pn (vAt R bn) ≤ tA t (vAt S i) y)) from fun hc => ⟨HMm.out, hbnl, fun i hi y hy => by
                rcases HK.out i hi with h | h
                · have := HM.out.2.2 i h y hy; omega
                · rw [h]; exact HM1.out y hy bn HN5.out⟩)
              have HNo := hid (show ¬ tA t pn (vAt R bn) < tA t xn (vAt R bb) → ((xn : Int) ∈ S ∧ bb < R.length ∧ (∀ i, i < k + 1 → ∀ y ∈ R, tA t xn (vAt R bb) ≤ tA t (vAt S i) y)) from fun hc => ⟨HM.out.1, hbl, fun i hi y hy => by
                rcases HK.out i hi with h | h
                · exact HM.out.2.2 i h y hy
                · rw [h]; have := HM1.out y hy bn HN5.out; omega⟩)
              clear hN5 hw5 HM HM1 HMm HK hcR c1 g1 HN
              have q5' : (bn : Int) < (R.length : Int) := by omega
              have q6 : (bb : Int) < (R.length : Int) := by omega
              by_cases hc : tA t pn (vAt R bn) < tA t xn (vAt R bb)
              · have HX := hid (HY.out hc)
                clear HY HNo
                generalize vAt R bn = u at r1 y1 hc
                generalize vAt R bb = v at r2 y2 hc
                obtain ⟨un, rfl⟩ := Int.eq_ofNat_of_zero_le y1.1
                obtain ⟨vn, rfl⟩ := Int.eq_ofNat_of_zero_le y2.1
                have hun : un < n := by omega
                have hvn : vn < n := by omega
                obtain ⟨b3, o3, c3, g1, _, g2⟩ := HC.out w5 HB5.out pn hpn
                have g3 := g2 un hun
                clear g2
                obtain ⟨b4, o4, c4, g4, _, g5⟩ := HC.out w5 HB5.out xn hxn
                have g6 := g5 vn hvn
                clear g5 hb5 y1 y2
                generalize tA t pn un = e1 at g3 hc
                generalize tA t xn vn = e2 at g6 hc
                have q2 : (xn : Int) < (n : Int) := by omega
                have q3 : (un : Int) < (n : Int) := by omega
                have q4 : (vn : Int) < (n : Int) := by omega
                go_wp2_with fail
                go_quiet (fail)
                go_wp2
                go_roundw
                case rel => exact ⟨k + 1, bn, q + q5 + nq, pn, by omega, by go_num, rfl, rfl, HX, by rw [HW5.out, World.drewN_drewN]; rfl⟩
                case measure => simp [intOf]; omega
              · have HX := hid (HNo.out hc)
                have hc : tA t xn (vAt R bb) ≤ tA t pn (vAt R bn) := by omega
                clear HY HNo
                generalize vAt R bn = u at r1 y1 hc
                generalize vAt R bb = v at r2 y2 hc
                obtain ⟨un, rfl⟩ := Int.eq_ofNat_of_zero_le y1.1
                obtain ⟨vn, rfl⟩ := Int.eq_ofNat_of_zero_le y2.1
                have hun : un < n := by omega
                have hvn : vn < n := by omega
                obtain ⟨b3, o3, c3, g1, _, g2⟩ := HC.out w5 HB5.out pn hpn
                have g3 := g2 un hun
                clear g2
                obtain ⟨b4, o4, c4, g4, _, g5⟩ := HC.out w5 HB5.out xn hxn
                have g6 := g5 vn hvn
                clear g5 hb5 y1 y2
                generalize tA t pn un = e1 at g3 hc
                generalize tA t xn vn = e2 at g6 hc
                have q2 : (xn : Int) < (n : Int) := by omega
                have q3 : (un : Int) < (n : Int) := by omega
                have q4 : (vn : Int) < (n : Int) := by omega
                go_wp2_with fail
                go_quiet (fail)
                go_wp2
                go_roundw
                case rel => exact ⟨k + 1, bb, q + q5 + nq, xn, by omega, by go_num, rfl, rfl, HX, by rw [HW5.out, World.drewN_drewN]; rfl⟩
                case measure => simp [intOf]; omega
            · obtain rfl : k = S.length := by omega
              have HMin := hid (show ∀ aa ∈ S, ∀ y ∈ R, tA t x (vAt R bb) ≤ tA t aa y from fun aa ha y hy => by
                obtain ⟨i, hi, rfl⟩ := mem_vAt ha
                exact HM.out.2.2 i hi y hy)
              have hxS := HM.out.1
              have HxS := hid hxS
              have m2 := I1.out _ hxS
              clear hxS HM
              obtain ⟨xn, rfl⟩ := Int.eq_ofNat_of_zero_le (show 0 ≤ x by omega)
              have hxn : xn < n := by omega
              have S1 := HS.out.keep hbw.out
              have HS1 := hid S1
              obtain ⟨bR, oR, heR, hcR⟩ := (HIR.out.below hbw.out).at' h0
              cases heR
              have r2 := hcR bb hbl
              rw [Nat.zero_add, show R[bb]?.getD 0 = vAt R bb from rfl] at r2
              have y2 := I2.out _ (vAt_mem hbl)
              have HVB := hid (show ∃ z, vAt R bb = z from ⟨_, rfl⟩)
              obtain ⟨yz, hyz⟩ := HVB.out
              rw [hyz] at r2 y2
              obtain ⟨yn, rfl⟩ := Int.eq_ofNat_of_zero_le y2.1
              have hyn : yn < n := by omega
              have HYN := hid hyz
              obtain ⟨b4, o4, c4, g4, _, g5⟩ := HC.out wr S1.below xn hxn
              have g6 := g5 yn hyn
              have hwb := HQ.out.bd xn yn hxn hyn
              have hmb := S1.mb
              have hD := S1.deg
              have hdl := S1.dl
              have d1 := arrV_cell hD xn (by omega)
              have HE1 := hid (show tA t xn (vAt R bb) = tA t xn yn by rw [hyz])
              have hne : ¬ xn = yn := fun e => I5.out _ HxS.out _ (vAt_mem hbl) (by rw [hyz, e])
              have hne' : ¬ yn = xn := fun e => hne e.symm
              have d2 := arrV_cell hD yn (by omega)
              have df := arrV_free hD
              have HDS := hid (show (incD ds xn)[yn]?.getD 0 = ds[yn]?.getD 0 by simp [incD, hne])
              have v1b := S1.db _ (show ds[xn]?.getD 0 ∈ ds by rw [List.getElem?_eq_getElem (by omega)]; simp)
              have v2b := S1.db _ (show ds[yn]?.getD 0 ∈ ds by rw [List.getElem?_eq_getElem (by omega)]; simp)
              have K5 := hid (show Keep1 w.heap.size wr ((wr.setCell ⟨w.heap.size, xn, none⟩ (.int .i64 (ds[xn]?.getD 0 + 1))).setCell ⟨w.heap.size, yn, none⟩ (.int .i64 (ds[yn]?.getD 0 + 1))) from setCell_keep1 (setCell_keep1 ⟨rfl, rfl, rfl, Nat.le_refl _, fun _ _ _ => rfl⟩ _ _) _ _)
              have D5 := hid (show ((wr.setCell ⟨w.heap.size, xn, none⟩ (.int .i64 (ds[xn]?.getD 0 + 1))).setCell ⟨w.heap.size, yn, none⟩ (.int .i64 (ds[yn]?.getD 0 + 1))).heap[w.heap.size]? = some (.cells (cellsV (incD (incD ds xn) yn)) 3 (0, 0)) by
                have := arrV_store (arrV_store hD xn (ds[xn]?.getD 0 + 1)) yn (ds[yn]?.getD 0 + 1)
                rw [this]; unfold incD; rw [show (ds.set xn (ds[xn]?.getD 0 + 1))[yn]?.getD 0 = ds[yn]?.getD 0 from HDS.out])
              clear g5 HVB hyz hcR S1 hD HDS
              generalize tA t xn yn = e1 at *
              generalize ds[xn]?.getD 0 = v1 at *
              generalize ds[yn]?.getD 0 = v2 at *
              have q2 : (xn : Int) < (n : Int) := by omega
              have q3 : (yn : Int) < (n : Int) := by omega
              have q4 : (bb : Int) < (R.length : Int) := by omega
              have W5 := hid (show ∃ w5, ((wr.setCell ⟨w.heap.size, xn, none⟩ (.int .i64 (v1 + 1))).setCell ⟨w.heap.size, yn, none⟩ (.int .i64 (v2 + 1))) = w5 from ⟨_, rfl⟩)
              have C5 := hid (own_keep1 HS1.out.con K5.out (by omega))
              have hz5 : ((wr.setCell ⟨w.heap.size, xn, none⟩ (.int .i64 (v1 + 1))).setCell ⟨w.heap.size, yn, none⟩ (.int .i64 (v2 + 1))).heap.size = wr.heap.size := by simp
              have HN1 := hid (show ∀ (j : Nat) (u : Value), [Value.int .i64 (yn : Int)][j]? = some u → (((wr.setCell ⟨w.heap.size, xn, none⟩ (.int .i64 (v1 + 1))).setCell ⟨w.heap.size, yn, none⟩ (.int .i64 (v2 + 1))).alloc (.cells #[.int .i64 (yn : Int)] 3)).cell? ((⟨wr.heap.size, 0, none⟩ : Addr).add j) = some u by rw [← hz5]; exact cell_one_new _ _ _)
              have hDl : w.heap.size < wr.heap.size := lt_block HS1.out.deg
              go_wp2_with (at_builtin; refine wpList_append_own _ rfl _ _ 23 rfl (w.heap.size + 1) 3 i0 (.int .i64 0) 1 8 Try.underlying23 hinf hz0 hz1 hz2 rfl (by decide) _ _ _ rfl (C5.out.alloc _) ⟨wr.heap.size, 0, none⟩ 1 1 [.int .i64 (yn : Int)] rfl rfl ?c1 ?c2 ?c3 ?c4 ?c5 ?_)
              case c1 => exact HN1.out
              case c2 => simp [Value.oneCell']
              case c3 => unfold maxLen; omega
              case c4 => omega
              case c5 => simp; omega
              intro v' w6 hown6 hgrow _
              have O6 := hid (show Own w6 (w.heap.size + 1) v' (S ++ [vAt R bb]) by rw [HYN.out]; unfold Own; rw [List.length_append, List.map_append]; exact hown6)
              have HG := hid hgrow
              have L6 := hid (own_left HS1.out.lef K5.out (by omega) hgrow (Ne.symm (HS1.out.apart hf h0)))
              have HDel := hid (vDelete_any w6 (w.heap.size + 1) gl c R bb L6.out hbl (by omega))
              have s7 : IntKind.i64.wrap ((bb : Int) + 1) = (bb : Int) + 1 := IntWalk.i64_in _ (by omega)
              clear hown6 hgrow g4 g6 d1 d2 df r2
              go_wp2_with fail
              refine HDel.out.mono ?_
              rintro e w7 ⟨hk7, rfl, ho7⟩
              have T7 := hid (HS1.out.next hf HQ.out hgc hgl K5.out D5.out (by rw [incD_len, incD_len, hdl]) (fun z hz => by
                have := incD_bd (by rw [incD_len]; omega) (incD_bd (by omega) HS1.out.db) z hz; omega) HG.out O6.out hk7 ho7 HxS.out hbl HMin.out)
              rw [HE1.out] at T7
              have hel : (R.eraseIdx bb).length < R.length := by rw [List.length_eraseIdx, if_pos hbl]; omega
              have HEL := hid hel
              clear hel hk7 ho7
              go_wp2
              go_roundw
              case rel =>
                repeat apply Exists.intro
                refine ⟨?_, rfl⟩
                exact ⟨S ++ [vAt R bb], R.eraseIdx bb, incD (incD ds xn) yn, m + e1, some ⟨gl, 0, none⟩, c, by go_num, rfl, T7⟩
              case measure => exact HEL.out
        · have hR : R = [] := List.eq_nil_of_length_eq_zero (by omega)
          subst hR
          have hSl : S.length ≤ 7 := by omega
          have HB := hid HS.out.below
          have HG := hid HS.out.grow.mst
          have HD := hid HS.out.deg
          have HDl := hid HS.out.dl
          have HDb := hid HS.out.db
          have HMb := hid HS.out.mb
          clear HS i1 i2 i3 i5
          go_wp2
          go_ret2
          refine ⟨HB.out, m, ds, rfl, HG.out, HD.out, HDl.out, fun x hx => ?_, ?_⟩
          · have := HDb.out x hx; omega
          · have := HMb.out; omega
end Go.Proofs.Ytbffdpcogfmomaa
