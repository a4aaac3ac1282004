/- Dividing by remainders: the document's own. -/
import Derived.Test.YtnjaacmcdkiilaaShRem
set_option linter.unusedVariables false
namespace Go.Proofs.Ytnjaacmcdkiilaa
open Go.RowKit

def frI (os : List Int) (n : Int) (k : Nat) : List Int := (List.range k).map (fra os n)
theorem frI_succ (os : List Int) (n : Int) (k : Nat) : frI os n (k + 1) = frI os n k ++ [fra os n k] := by simp [frI, List.range_succ]
theorem frI_len (os : List Int) (n : Int) (k : Nat) : (frI os n k).length = k := by simp [frI]
theorem row_at {w : World} {base g c m : Nat} {l : List Int} (h : w.ownsRow base 3 1 (.slice (some ⟨g, 0, none⟩) m c) m (l.map (Value.int .i64))) (hl : l.length = m) (j : Nat) (hj : j < m) : w.cell? ⟨g, j, none⟩ = some (.int .i64 (at0 l j)) := by
  rw [h.cellAt j (by omega), List.getElem?_map, List.getElem?_eq_getElem (by omega)]
  unfold at0
  rw [List.getElem?_eq_getElem (by omega)]
  rfl
theorem fmx_succ (g : Nat → Int) (k : Nat) : fmx g (k + 1) = if g (fmx g k) < g (k + 1) then k + 1 else fmx g k := rfl

set_option maxRecDepth 100000 in
set_option maxHeartbeats 4000000 in
theorem rrem_any (a : Option Addr) (os : List Int) (cap : Nat) (n : Int) (w : World) (h : Ints w a os) (ho : okO os = true) (n0 : 0 ≤ n) (n1 : n ≤ 1000) :
  Calls Try.prog 75 #[.slice a os.length cap, .int .i64 n] w (fun e w' => Below w.heap.size w w' ∧ ∃ A c, e = .returned (.slice A os.length c) ∧ w'.ownsRow w.heap.size 3 1 (.slice A os.length c) os.length ((remL os n).map (Value.int .i64))) := by
  obtain ⟨i0, hi, hz0, hz1, hz2⟩ := info_parts int_info
  obtain ⟨hl1, hl8, _⟩ := okO_len ho
  obtain ⟨hv, hs1, hs2⟩ := okO_vals ho
  have HS := hid (fun w' (hb : Below w.heap.size w w') => rsum_any a os cap w' (h.below hb) (fun x hx => by have := hv x hx; omega) (by omega))
  have HF := hid (fun k (hk : k < os.length) => flo_facts ho n0 n1 hk)
  have HL := hid (lft_facts ho n0 n1)
  have HI := hid h
  have hSdef := hid (show ∀ k, flo os n k = Int.tdiv (n * at0 os k) (sumL os) ∧ fra os n k = Int.tmod (n * at0 os k) (sumL os) from fun k => ⟨rfl, rfl⟩)
  have HSb := hid (fun k (hk : k ≤ os.length) => show 0 ≤ sumL (floL os n k) ∧ sumL (floL os n k) ≤ (k : Int) * 1000 from by
    have hm : ∀ x ∈ floL os n k, 0 ≤ x ∧ x ≤ 1000 := by
      intro x hx
      unfold floL at hx
      rw [List.mem_map] at hx
      obtain ⟨j, hj, rfl⟩ := hx
      have := flo_facts ho n0 n1 (show j < os.length from by have := List.mem_range.1 hj; omega)
      omega
    have := sumL_bd hm
    rw [floL_len] at this
    omega)
  have HCh := hid (fun t (ht : t < os.length) => choice (fra os n) os.length t ht (fun i hi => (flo_facts ho n0 n1 hi).2.2.2.2.1))
  clear h ho hv
  generalize hSg : sumL os = S at *
  clear hSg
  go_enter Try.func75, Try.ntmps75
  go_wp2_with fail
  refine (HS.out w (Below.refl _ _)).mono ?_
  rintro e w' ⟨rfl, rfl⟩
  go_wp2
  go_loopw [6, 7, 8, 9] (fun lf o r i wr => ∃ k : Nat, k ≤ os.length ∧ i = .int .i64 k ∧ lf = .int .i64 (n - sumL (floL os n k)) ∧ Hid (wr.ownsRow w.heap.size 3 1 o k ((floL os n k).map (Value.int .i64))) ∧ Hid (wr.ownsRow w.heap.size 3 1 r k ((frI os n k).map (Value.int .i64))) ∧ Hid (Apart o r) ∧ Below w.heap.size w wr) (fun _ _ _ i _ => os.length - (intOf i).toNat)
  case atStart => exact ⟨0, Nat.zero_le _, rfl, by simp [floL, sumL], ⟨rfl, .inl ⟨rfl, rfl⟩⟩, ⟨rfl, .inl ⟨rfl, rfl⟩⟩, (fun q hq => by cases hq), Below.refl _ _⟩
  case round =>
    obtain ⟨k, hk, rfl, rfl, HM, HR, HAp, hB⟩ := hrel
    by_cases hlt : k < os.length
    · rcases (HI.out.below hB).at_ with e | ⟨b, off, rfl, hc⟩
      · rw [e] at hlt; simp at hlt
      have c0 : wr.cell? ⟨b, off + k, none⟩ = some (.int .i64 (at0 os k)) := hc k hlt
      obtain ⟨f0, f1, f2, f3, f4, f5, f6⟩ := HF.out k hlt
      have HIc := hid (fun W (hb : Below w.heap.size w W) => show W.cell? ⟨b, off + k, none⟩ = some (.int .i64 (at0 os k)) from by
        rcases (HI.out.below hb).at_ with e | ⟨b', off', he, hc'⟩
        · rw [e] at hlt; simp at hlt
        · cases he; exact hc' k hlt)
      obtain ⟨d0, d1⟩ := hSdef.out k
      have hsb := HSb.out k hk
      have HFs := hid (floL_succ os n k)
      have HRs := hid (frI_succ os n k)
      have HFl := hid (floL_len os n (k + 1))
      clear hc f6
      generalize at0 os k = v at *
      generalize flo os n k = F at *
      generalize fra os n k = R at *
      have hS0 : S ≠ 0 := by omega
      have hw0 : IntKind.i64.wrap (n * v) = n * v := IntWalk.i64_in _ (by omega)
      have d0' := d0.symm
      have d1' := d1.symm
      have hw1 : IntKind.i64.wrap F = F := IntWalk.i64_in _ (by omega)
      have hw2 : IntKind.i64.wrap R = R := IntWalk.i64_in _ (by omega)
      clear d0 d1
      have hM := HM.out
      have hR := HR.out
      have hzB := hB.size
      have hbl : b < wr.heap.size := cell_lt c0
      go_wp2_with (at_builtin; refine wpList_append_lies _ rfl _ _ 22 rfl w.heap.size 3 i0 (.int .i64 0) 1 8 Try.underlying22 hi hz0 hz1 hz2 rfl (by decide) _ k ((floL os n k).map (Value.int .i64)) rfl (hM.alloc _) ⟨wr.heap.size, 0, none⟩ 1 1 [.int .i64 F] rfl rfl (cell_one_new _ _ _) (by simp [Value.oneCell']) (by decide) (by unfold maxLen; omega) (by omega) (by first | omega | (simp; omega)) _ rfl ?_)
      intro g c6 w6 hownM hgrow hat hgl
      have hR6 := own_grown (hR.alloc _) hgrow (fun q hq e => HAp.out q e.symm hq)
      have p6 := (hB.alloc hB.size _).grown hgrow (by first | omega | (simp; omega)) (fun q hq => (hM.lt q hq).1)
      have HAp6 := hid (show ∀ q, u8.ownBlock = some q → q ≠ g from fun q hq e => by
        subst e
        rcases hat with h | h
        · exact HAp.out _ h hq
        · have := own_lt hR hq; (try simp at h); omega)
      have hs6 := p6.size
      have HR6 := hid hR6
      have HM6 := hid hownM
      have e0 := HIc.out w6 p6
      clear hgrow hat hM hR HM HR HAp
      go_wp2_with (at_builtin; refine wpList_append_lies _ rfl _ _ 22 rfl w.heap.size 3 i0 (.int .i64 0) 1 8 Try.underlying22 hi hz0 hz1 hz2 rfl (by decide) _ k ((frI os n k).map (Value.int .i64)) rfl (hR6.alloc _) ⟨w6.heap.size, 0, none⟩ 1 1 [.int .i64 R] rfl rfl (cell_one_new _ _ _) (by simp [Value.oneCell']) (by decide) (by unfold maxLen; omega) (by omega) (by first | omega | (simp; omega)) _ rfl ?_)
      intro g2 c7 w7 hownR hgrow2 hat2 hgl2
      have hM7 := own_grown (HM6.out.alloc _) hgrow2 (fun q hq e => by
        have : g = q := by simpa [Value.ownBlock] using hq
        subst this
        exact HAp6.out _ e.symm rfl)
      have p7 := (p6.alloc p6.size _).grown hgrow2 (by first | omega | (simp; omega)) (fun q hq => (HR6.out.lt q hq).1)
      have HAp7 := hid (show Apart (.slice (some ⟨g, 0, none⟩) (k + 1) c6) (.slice (some ⟨g2, 0, none⟩) (k + 1) c7) from fun q hq e => by
        have e1 : g = q := by simpa [Value.ownBlock] using hq
        have e2 : g2 = q := by simpa [Value.ownBlock] using e
        subst e1
        rcases hat2 with h | h
        · exact HAp6.out _ h e2
        · (try simp at h); omega)
      have hM8 : w7.ownsRow w.heap.size 3 1 (.slice (some ⟨g, 0, none⟩) (k + 1) c6) (k + 1) ((floL os n (k + 1)).map (Value.int .i64)) := by rw [HFs.out, List.map_append]; exact hM7
      have z0 := row_at hM8 HFl.out k (by omega)
      rw [show at0 (floL os n (k + 1)) k = F by rw [HFs.out]; unfold at0; rw [List.getElem?_append_right (by rw [floL_len]; omega), floL_len, Nat.sub_self]; rfl] at z0
      have hsum : sumL (floL os n (k + 1)) = sumL (floL os n k) + F := by rw [HFs.out, sumL_app]; simp [sumL]
      have hw3 : IntKind.i64.wrap (n - sumL (floL os n k) - F) = n - sumL (floL os n k) - F := IntWalk.i64_in _ (by omega)
      have k0 : (0 : Int) ≤ (k : Int) := by omega
      have k1 : (k : Int) < ((k + 1 : Nat) : Int) := by omega
      have HM7 := hid hM8
      have HR7 := hid hownR
      have HSu := hid hsum
      clear hgrow2 hat2 hM7 hM8 hownR HM6 HR6 HAp6 hR6 hownM hsum
      generalize sumL (floL os n k) = z at *
      go_wp2
      go_roundw
      case rel => exact ⟨k + 1, by omega, by go_num, by rw [HSu.out]; congr 1; omega, HM7, by unfold Hid; rw [HRs.out, List.map_append]; exact HR7.out, HAp7, p7⟩
      case measure => simp [intOf]; omega
    · obtain rfl : k = os.length := by omega
      have hM := HM.out
      have hR := HR.out
      obtain ⟨gm, cm, rfl, hgm, hgml⟩ := hM.form hl1
      obtain ⟨gr, cr, rfl, hgr, hgrl⟩ := hR.form hl1
      have hne : gm ≠ gr := fun e => by subst e; exact HAp.out _ rfl rfl
      obtain ⟨_, t0, t1⟩ := HL.out
      rw [show n - sumL (floL os n os.length) = lft os n from rfl]
      have hres := hid (show remL os n = plusTo (flo os n) (fra os n) os.length (lft os n).toNat from rfl)
      have hpl0 := hid (plusTo_zero (flo os n) (fra os n) os.length)
      have hrs0 := hid (rests_zero (fra os n) os.length)
      clear HAp HL HSb hSdef HI hM hR
      generalize hT : lft os n = T at *
      obtain ⟨t, rfl⟩ := Int.eq_ofNat_of_zero_le t0
      rw [Int.toNat_natCast] at hres
      clear hT
      go_wp2
      go_loopw [6] (fun lf wx => ∃ p : Nat, p ≤ t ∧ lf = .int .i64 ((t : Int) - (p : Int)) ∧ Hid (wx.ownsRow w.heap.size 3 1 (.slice (some ⟨gm, 0, none⟩) os.length cm) os.length ((plusTo (flo os n) (fra os n) os.length p).map (Value.int .i64))) ∧ Hid (wx.ownsRow w.heap.size 3 1 (.slice (some ⟨gr, 0, none⟩) os.length cr) os.length ((rests (fra os n) os.length p).map (Value.int .i64))) ∧ Below w.heap.size w wx) (fun lf _ => (intOf lf).toNat)
      case atStart => exact ⟨0, Nat.zero_le _, by simp, by unfold Hid; rw [hpl0.out]; exact HM.out, by unfold Hid; rw [hrs0.out]; exact HR.out, hB⟩
      case round =>
        clear HM HR hB
        obtain ⟨p, hp, rfl, HM, HR, hB⟩ := hrel
        by_cases hlt2 : p < t
        · have hd : (0 : Int) < (t : Int) - (p : Int) := by omega
          have hch := HCh.out p (by omega)
          have HRc := hid (fun W m (e : W = wr.drewN m) j (hj : j < os.length) => show W.cell? ⟨gr, j, none⟩ = some (.int .i64 (restAt (fra os n) os.length p j)) from by
            have := row_at HR.out (rests_len _ _ _) j hj
            rw [rests_at _ _ _ _ hj] at this
            rw [e]; exact this)
          go_wp2
          obtain ⟨wo, hwo⟩ : ∃ wo : World, wo = wr := ⟨_, rfl⟩
          rw [← hwo] at HRc HM HR hB
          go_loopw [10, 11] (fun b i wx => ∃ (j m : Nat), 1 ≤ j ∧ j ≤ os.length ∧ i = .int .i64 j ∧ b = .int .i64 ((fmx (restAt (fra os n) os.length p) (j - 1) : Nat) : Int) ∧ Hid (wx = wo.drewN m)) (fun _ i _ => os.length - (intOf i).toNat)
          case atStart => exact ⟨1, 0, Nat.le_refl _, hl1, rfl, rfl, by rw [← hwo]; rfl⟩
          case round =>
            obtain ⟨j, m, hj1, hj, rfl, rfl, hwx⟩ := hrel
            by_cases hlt3 : j < os.length
            · have e1 := HRc.out wr m hwx.out j hlt3
              have hfb := (fmx_spec (restAt (fra os n) os.length p) (j - 1)).1
              have e2 := HRc.out wr m hwx.out (fmx (restAt (fra os n) os.length p) (j - 1)) (by omega)
              have hfs := hid (show fmx (restAt (fra os n) os.length p) (j + 1 - 1) = if restAt (fra os n) os.length p (fmx (restAt (fra os n) os.length p) (j - 1)) < restAt (fra os n) os.length p j then j else fmx (restAt (fra os n) os.length p) (j - 1) from by
                obtain ⟨q, rfl⟩ : ∃ q, j = q + 1 := ⟨j - 1, by omega⟩
                rfl)
              generalize hx : restAt (fra os n) os.length p (fmx (restAt (fra os n) os.length p) (j - 1)) = x at *
              generalize restAt (fra os n) os.length p j = y at *
              clear hx
              generalize fmx (restAt (fra os n) os.length p) (j - 1) = b at *
              have j0 : (0 : Int) ≤ (j : Int) := by omega
              have j1 : (j : Int) < (os.length : Int) := by omega
              have b0 : (0 : Int) ≤ (b : Int) := by omega
              have b1 : (b : Int) < (os.length : Int) := by omega
              by_cases hxy : x < y
              · have hfs2 := hid ((hfs.out).trans (if_pos hxy))
                go_wp2
                go_quiet (fail)
                go_wp2
                go_roundw
                case rel => exact ⟨j + 1, _, by omega, by omega, by go_num, by rw [hfs2.out], by unfold Hid; rw [hwx.out, World.drewN_drewN]⟩
                case measure => simp [intOf]; omega
              · have hfs2 := hid ((hfs.out).trans (if_neg hxy))
                have hd1 : decide (x < y) = false := decide_eq_false hxy
                go_wp2
                go_quiet (fail)
                go_wp2
                go_roundw
                case rel => exact ⟨j + 1, _, by omega, by omega, by go_num, by rw [hfs2.out], by unfold Hid; rw [hwx.out, World.drewN_drewN]⟩
                case measure => simp [intOf]; omega
            · obtain rfl : j = os.length := by omega
              have hbw : Below wo.heap.size wo wr := by rw [hwx.out]; exact below_dn (Below.refl _ _) m
              have hB2 := hB.trans (hbw.mono hB.size)
              have hM2 := own_below HM.out hbw
              have hR2 := own_below HR.out hbw
              obtain ⟨hr1, hr2⟩ := hch
              have hv0 := plusTo_at (flo os n) (fra os n) os.length p _ hr2
              have hfl := HF.out _ hr2
              have e0 := row_at hM2 (plusTo_len _ _ _ _) _ hr2
              have hbd : 0 ≤ at0 (plusTo (flo os n) (fra os n) os.length p) (fmx (restAt (fra os n) os.length p) (os.length - 1)) ∧ at0 (plusTo (flo os n) (fra os n) os.length p) (fmx (restAt (fra os n) os.length p) (os.length - 1)) ≤ 1001 := by
                rw [hv0]; split <;> omega
              have HSt := hid (plusTo_step (flo os n) (fra os n) os.length p _ hr2 hr1)
              have HSr := hid (rests_step (fra os n) os.length p _ hr2 hr1)
              clear hv0 hfl hr1 HRc HCh
              generalize fmx (restAt (fra os n) os.length p) (os.length - 1) = b at *
              generalize at0 (plusTo (flo os n) (fra os n) os.length p) b = y at *
              have f0 := hM2.frozenAt b
              have S1 := hM2.stored b (.int .i64 (y + 1))
              have hR3 := own_grown hR2 S1.2 (fun q hq e => by
                have : gr = q := by simpa [Value.ownBlock] using hq
                subst this
                cases e
                exact hne rfl)
              have f1 := hR3.frozenAt b
              have g1 := row_at hR3 (rests_len _ _ _) b hr2
              have S2 := hR3.stored b (.int .i64 (-1))
              have HM4 := hid (own_grown S1.1 S2.2 (fun q hq e => by
                have : gm = q := by simpa [Value.ownBlock] using hq
                subst this
                cases e
                exact hne rfl))
              have HR4 := hid S2.1
              have HB4 := hid ((hB2.setCell (p := ⟨gm, b, none⟩) (by exact hgm) (.int .i64 (y + 1))).setCell (p := ⟨gr, b, none⟩) (by exact hgr) (.int .i64 (-1)))
              have b0 : (0 : Int) ≤ (b : Int) := by omega
              have b1 : (b : Int) < (os.length : Int) := by omega
              have hwy : IntKind.i64.wrap (y + 1) = y + 1 := IntWalk.i64_in _ (by omega)
              have hwt : IntKind.i64.wrap ((t : Int) - (p : Int) - 1) = (t : Int) - (p : Int) - 1 := IntWalk.i64_in _ (by omega)
              clear S1 S2 hR2 hM2 hbw
              go_wp2
              go_roundw
              case rel => exact ⟨p + 1, by omega, by congr 1; omega, by unfold Hid; rw [← HSt.out, List.map_set]; exact HM4.out, by unfold Hid; rw [← HSr.out, List.map_set]; exact HR4.out, HB4.out⟩
              case measure => simp [intOf]; omega
        · obtain rfl : p = t := by omega
          have HX := hid (show (remL os n).map (Value.int .i64) = (plusTo (flo os n) (fra os n) os.length p).map (Value.int .i64) by rw [hres.out])
          have hd : ¬ (0 : Int) < (p : Int) - (p : Int) := by omega
          go_wp2
          go_ret
          exact ⟨hB, some ⟨gm, 0, none⟩, cm, rfl, by rw [HX.out]; exact HM.out⟩
end Go.Proofs.Ytnjaacmcdkiilaa
