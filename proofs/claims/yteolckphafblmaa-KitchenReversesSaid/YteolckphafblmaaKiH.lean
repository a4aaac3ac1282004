/- The shifts: Run and Idle of package kitchen, and the document's own. -/
import Derived.Test.YteolckphafblmaaKiE
set_option linter.unusedVariables false
namespace Go.Proofs.Yteolckphafblmaa
open Go.RowKit

theorem rshift_info : (Try.prog.info? 38).map (fun i => (i.zero, i.size, i.bytes)) = some (some (.agg #[.int .i64 0, .int .i64 0, .int .i64 0, .int .i64 0, .int .i64 0]), 5, 40) := by kernel_rfl
/-- The cells of the batch at a place of an order, and its number. -/
theorem kr_place {w : World} {a A : Option Addr} {l : List Bt} {o : List Int} (h : Bts w a l) (hO : Ints w A o) (hl : BtsOk l) (ho : IsOrd o l.length) (i : Nat) (hi : i < o.length) :
    ∃ (n : Nat) (b off b2 off2 : Nat), n < l.length ∧ a = some ⟨b, off, none⟩ ∧ A = some ⟨b2, off2, none⟩ ∧ w.cell? ⟨b2, off2 + i, none⟩ = some (.int .i64 (n : Int)) ∧ w.cell? ⟨b, off + n * 2, none⟩ = some (.int .i64 (btAt (seqO l o) i).1) ∧ w.cell? ⟨b, off + n * 2 + 1, none⟩ = some (.int .i64 (btAt (seqO l o) i).2) ∧ oAt o i = (n : Int) := by
  have hm := ho.mem (oAt_mem o i hi)
  obtain ⟨n, hn⟩ := Int.eq_ofNat_of_zero_le hm.1
  have hnl : n < l.length := by omega
  have he : btAt (seqO l o) i = btAt l n := by rw [seqO_at l o i hi, hn]; rfl
  rcases h.at_ with e | ⟨b, off, ha, hc⟩
  · rw [e] at hnl; simp at hnl
  rcases hO.at_ with e | ⟨b2, off2, hA, hc2⟩
  · rw [e] at hi; simp at hi
  have c := hc2 i hi
  rw [show o[i]?.getD 0 = oAt o i from rfl, hn] at c
  exact ⟨n, b, off, b2, off2, hnl, ha, hA, c, by rw [he]; exact (hc n hnl).1, by rw [he]; exact (hc n hnl).2, hn⟩
/-- A block that holds a shift of the document's own. -/
def LBoxR (w : World) (B : Nat) (x0 x1 c x3 p : Int) : Prop := w.heap[B]? = some (.cells #[.int .i64 x0, .int .i64 x1, .int .i64 c, .int .i64 x3, .int .i64 p] 38 (0, 0))
theorem LBoxR.cells {w : World} {B : Nat} {x0 x1 c x3 p : Int} (h : LBoxR w B x0 x1 c x3 p) : w.cell? ⟨B, 0, none⟩ = some (.int .i64 x0) ∧ w.cell? ⟨B, 1, none⟩ = some (.int .i64 x1) ∧ w.cell? ⟨B, 2, none⟩ = some (.int .i64 c) ∧ w.cell? ⟨B, 3, none⟩ = some (.int .i64 x3) ∧ w.cell? ⟨B, 4, none⟩ = some (.int .i64 p) := by
  unfold LBoxR at h
  unfold World.cell?
  simp [h]
theorem LBoxR.frozen {w : World} {B : Nat} {x0 x1 c x3 p : Int} (h : LBoxR w B x0 x1 c x3 p) (i : Nat) : w.frozen? ⟨B, i, none⟩ = false := by
  unfold LBoxR at h
  unfold World.frozen?
  simp [h]
/-- What has just been laid in a block of its own. -/
theorem news_at {W : World} {n : Nat} (h : W.heap.size = n) (cs : Array Value) (t : TypeId) : ∀ (j : Nat) (u : Value), cs.toList[j]? = some u → (W.alloc (.cells cs t)).cell? ((⟨n, 0, none⟩ : Addr).add j) = some u := by
  subst h
  have := World.news_of_block (cs := cs) (t := t) (fr := (0, 0)) (heap_alloc_new W (.cells cs t))
  simpa using this
set_option maxRecDepth 100000 in
set_option maxHeartbeats 4000000 in
theorem krRun_any (a A : Option Addr) (l : List Bt) (o : List Int) (cap oc : Nat) (w : World) (h : Bts w a l) (hO : Ints w A o) (hl : BtsOk l) (ho : IsOrd o l.length) :
  Calls Try.prog 44 #[.slice a l.length cap, .slice A o.length oc] w (ShsR w o (seqO l o)) := by
  obtain ⟨i0, hinf, hz0, hz1, hz2⟩ := info_parts rshift_info
  have hlen := h.len
  have holen := hO.len
  have ho7 : o.length ≤ 7 := by rw [ho.len]; exact hl.len
  have HP := hid (fun W (hb : Below w.heap.size w W) i (hi : i < o.length) => kr_place (h.below hb) (hO.below hb) hl ho i hi)
  have HS := hid (seq_ok hl ho)
  have HC := hid (fun k (hk : k ≤ o.length) => cookTo_bd (seq_ok hl ho) k (by rw [seqO_len]; exact hk))
  have HPk := hid (fun k (hk : k ≤ o.length) => packTo_bd (seq_ok hl ho) k (by rw [seqO_len]; exact hk))
  have HSL := hid (seqO_len l o)
  clear h hO hl ho
  generalize seqO l o = s at *
  go_enter Try.func44, Try.ntmps44
  go_wp2
  go_loopw [5, 6, 7, 8] (fun v t u i wr => ∃ (k : Nat), k ≤ o.length ∧ i = .int .i64 k ∧ t = .int .i64 (cookTo s k) ∧ u = .int .i64 (packTo s k) ∧ Hid (wr.ownsRow w.heap.size 38 5 v k (runC o s k)) ∧ Hid (Below w.heap.size w wr)) (fun _ _ _ i _ => o.length - (intOf i).toNat)
  case atStart => exact ⟨0, Nat.zero_le _, rfl, rfl, rfl, ⟨rfl, .inl ⟨rfl, rfl⟩⟩, Below.refl _ _⟩
  case round =>
    obtain ⟨k, hk, rfl, rfl, rfl, HO, HB⟩ := hrel
    have e1 := HC.out k hk
    have e2 := HPk.out k hk
    by_cases hlt : k < o.length
    · obtain ⟨n, b, off, b2, off2, hn, rfl, rfl, c0, c1, c2, hok⟩ := HP.out _ HB.out k hlt
      have hbd := HS.out k (by rw [HSL.out]; exact hlt)
      have hd : decide (k < o.length) = true := decide_eq_true hlt
      have i0' : (0 : Int) ≤ (k : Int) := by omega
      have i1' : (k : Int) < (o.length : Int) := by omega
      have HShC := hid (show shC o s k = [.int .i64 (n : Int), .int .i64 (cookTo s k), .int .i64 (cookTo s k + (btAt s k).1), .int .i64 (max (cookTo s k + (btAt s k).1) (packTo s k)), .int .i64 (max (cookTo s k + (btAt s k).1) (packTo s k) + (btAt s k).2)] by rw [← hok]; rfl)
      have HCk := hid (show cookTo s (k + 1) = cookTo s k + (btAt s k).1 from rfl)
      have HKk := hid (show packTo s (k + 1) = max (cookTo s k + (btAt s k).1) (packTo s k) + (btAt s k).2 from rfl)
      have l0 := cell_lt c0
      have l1 := cell_lt c1
      have hsz := HB.out.size
      dsimp only at l0 l1
      have hO1 := HO.out
      clear HP HC HPk HS hok
      generalize cookTo s k = c at *
      generalize packTo s k = p at *
      generalize btAt s k = y at *
      have s1 : IntKind.i64.wrap (c + y.1) = c + y.1 := IntWalk.i64_in _ (by omega)
      by_cases hm : c + y.1 < p
      · have HM := hid (show max (c + y.1) p = p by omega)
        rw [HM.out] at HShC HKk
        clear HM
        go_wp2
        go_region
        all_goals
          obtain ⟨wd, hwd⟩ : ∃ wd : World, wd = ((wr.alloc (.cells #[.int .i64 y.1, .int .i64 y.2] 40)).alloc (.cells #[.int .i64 (n : Int), .int .i64 c, .int .i64 (c + y.1), .int .i64 0, .int .i64 0] 38)).drew := ⟨_, rfl⟩
          have Q1 : Below wr.heap.size wr wd := by rw [hwd]; exact (((Below.refl _ _).alloc (Nat.le_refl _) _).alloc (by simp) _).drew
          have qz : wd.heap.size = wr.heap.size + 1 + 1 := by rw [hwd]; simp
          rw [← hwd]
          have z0 : wd.cell? ⟨wr.heap.size, 0, none⟩ = some (.int .i64 y.1) := by rw [hwd]; go_simp
          have z1 : wd.cell? ⟨wr.heap.size, 1, none⟩ = some (.int .i64 y.2) := by rw [hwd]; go_simp
          have X0 : LBoxR wd (wr.heap.size + 1) (n : Int) c (c + y.1) 0 0 := by
            rw [hwd]
            have := heap_alloc_new (wr.alloc (.cells #[.int .i64 y.1, .int .i64 y.2] 40)) (.cells #[.int .i64 (n : Int), .int .i64 c, .int .i64 (c + y.1), .int .i64 0, .int .i64 0] 38)
            rw [World.size_alloc] at this
            exact this
          obtain ⟨x0, x1, x2, x3, x4⟩ := X0.cells
          have xf := X0.frozen
          have X2 : LBoxR ((wd.setCell ⟨wr.heap.size + 1, 3, none⟩ (.int .i64 (p))).setCell ⟨wr.heap.size + 1, 4, none⟩ (.int .i64 (p + y.2))) (wr.heap.size + 1) (n : Int) c (c + y.1) (p) (p + y.2) := by
            unfold LBoxR at X0 ⊢
            rw [heap_setCell_same _ _ 4 _ _ _ (heap_setCell_same _ _ 3 _ _ _ X0)]; rfl
          have HX2 := hid X2
          clear hwd c0 c1 c2 X2
          have Q2 : Below wr.heap.size wr ((wd.setCell ⟨wr.heap.size + 1, 3, none⟩ (.int .i64 (p))).setCell ⟨wr.heap.size + 1, 4, none⟩ (.int .i64 (p + y.2))) := (Q1.setCell (p := ⟨wr.heap.size + 1, 3, none⟩) (Nat.le_succ _) _).setCell (p := ⟨wr.heap.size + 1, 4, none⟩) (Nat.le_succ _) _
          have O7 := own_below hO1 Q2
          have P7 := hid (HB.out.trans (Q2.mono hsz))
          have HQZ := hid qz
          have hqz : ((wd.setCell ⟨wr.heap.size + 1, 3, none⟩ (.int .i64 (p))).setCell ⟨wr.heap.size + 1, 4, none⟩ (.int .i64 (p + y.2))).heap.size = wd.heap.size := by simp
          have HQS := hid hqz
          clear qz hqz Q1 Q2 X0
          go_wp2_with (at_builtin; refine wpList_append_own _ rfl _ _ 30 rfl w.heap.size 38 i0 (.agg #[.int .i64 0, .int .i64 0, .int .i64 0, .int .i64 0, .int .i64 0]) 5 40 Try.underlying30 hinf hz0 hz1 hz2 rfl (by decide) _ _ _ rfl (O7.alloc _) ⟨wd.heap.size, 0, none⟩ 1 1 [.int .i64 (n : Int), .int .i64 c, .int .i64 (c + y.1), .int .i64 (p), .int .i64 (p + y.2)] rfl rfl (news_at HQS.out #[.int .i64 (n : Int), .int .i64 c, .int .i64 (c + y.1), .int .i64 (p), .int .i64 (p + y.2)] 38) (by simp [Value.oneCell']) (by unfold maxLen; omega) (by omega) (by rw [World.size_alloc, HQS.out, HQZ.out]; omega) ?_)
          intro v' w6 hown2 hgrow _
          have hnb : ∀ q, some q = u5.ownBlock → w.heap.size ≤ q ∧ q < wr.heap.size := fun q hq => hO1.lt q hq.symm
          have hw7 := HQS.out
          have hw8 := HQZ.out
          have e6 := hgrow.block (wr.heap.size + 1) (by rw [World.size_alloc, hw7, hw8]; omega) (fun e => by have := (hnb _ e).2; omega)
          have X6 : LBoxR w6 (wr.heap.size + 1) (n : Int) c (c + y.1) (p) (p + y.2) := by
            have h2 := HX2.out
            unfold LBoxR at h2 ⊢
            rw [e6, ((Below.refl _ _).alloc (Nat.le_refl _) _).block (wr.heap.size + 1) (by rw [hw7, hw8]; omega)]
            exact h2
          obtain ⟨_, _, y2, _, y4⟩ := X6.cells
          clear X6
          have B6 := hid ((P7.out.alloc P7.out.size _).grown hgrow (by rw [World.size_alloc, hw7, hw8]; omega) (fun q hq => (hnb q hq.symm).1))
          clear hnb hw7 hw8 hgrow O7 e6 x0 x1 x2 x3 x4 xf z0 z1 hO1
          have HOw := hid hown2
          clear hown2 HO HB P7
          go_wp2
          go_roundw
          case rel => exact ⟨k + 1, by omega, by go_num, by rw [HCk.out], by rw [HKk.out], by unfold Hid; rw [runC_succ, HShC.out]; simpa using HOw.out, B6⟩
          case measure => simp [intOf]; omega
      · have HM := hid (show max (c + y.1) p = c + y.1 by omega)
        have hm' : p ≤ c + y.1 := by omega
        clear hm
        rw [HM.out] at HShC HKk
        clear HM
        go_wp2
        go_region
        all_goals
          obtain ⟨wd, hwd⟩ : ∃ wd : World, wd = ((wr.alloc (.cells #[.int .i64 y.1, .int .i64 y.2] 40)).alloc (.cells #[.int .i64 (n : Int), .int .i64 c, .int .i64 (c + y.1), .int .i64 0, .int .i64 0] 38)).drew := ⟨_, rfl⟩
          have Q1 : Below wr.heap.size wr wd := by rw [hwd]; exact (((Below.refl _ _).alloc (Nat.le_refl _) _).alloc (by simp) _).drew
          have qz : wd.heap.size = wr.heap.size + 1 + 1 := by rw [hwd]; simp
          rw [← hwd]
          have z0 : wd.cell? ⟨wr.heap.size, 0, none⟩ = some (.int .i64 y.1) := by rw [hwd]; go_simp
          have z1 : wd.cell? ⟨wr.heap.size, 1, none⟩ = some (.int .i64 y.2) := by rw [hwd]; go_simp
          have X0 : LBoxR wd (wr.heap.size + 1) (n : Int) c (c + y.1) 0 0 := by
            rw [hwd]
            have := heap_alloc_new (wr.alloc (.cells #[.int .i64 y.1, .int .i64 y.2] 40)) (.cells #[.int .i64 (n : Int), .int .i64 c, .int .i64 (c + y.1), .int .i64 0, .int .i64 0] 38)
            rw [World.size_alloc] at this
            exact this
          obtain ⟨x0, x1, x2, x3, x4⟩ := X0.cells
          have xf := X0.frozen
          have X2 : LBoxR ((wd.setCell ⟨wr.heap.size + 1, 3, none⟩ (.int .i64 (c + y.1))).setCell ⟨wr.heap.size + 1, 4, none⟩ (.int .i64 (c + y.1 + y.2))) (wr.heap.size + 1) (n : Int) c (c + y.1) (c + y.1) (c + y.1 + y.2) := by
            unfold LBoxR at X0 ⊢
            rw [heap_setCell_same _ _ 4 _ _ _ (heap_setCell_same _ _ 3 _ _ _ X0)]; rfl
          have HX2 := hid X2
          clear hwd c0 c1 c2 X2
          have Q2 : Below wr.heap.size wr ((wd.setCell ⟨wr.heap.size + 1, 3, none⟩ (.int .i64 (c + y.1))).setCell ⟨wr.heap.size + 1, 4, none⟩ (.int .i64 (c + y.1 + y.2))) := (Q1.setCell (p := ⟨wr.heap.size + 1, 3, none⟩) (Nat.le_succ _) _).setCell (p := ⟨wr.heap.size + 1, 4, none⟩) (Nat.le_succ _) _
          have O7 := own_below hO1 Q2
          have P7 := hid (HB.out.trans (Q2.mono hsz))
          have HQZ := hid qz
          have hqz : ((wd.setCell ⟨wr.heap.size + 1, 3, none⟩ (.int .i64 (c + y.1))).setCell ⟨wr.heap.size + 1, 4, none⟩ (.int .i64 (c + y.1 + y.2))).heap.size = wd.heap.size := by simp
          have HQS := hid hqz
          clear qz hqz Q1 Q2 X0
          go_wp2_with (at_builtin; refine wpList_append_own _ rfl _ _ 30 rfl w.heap.size 38 i0 (.agg #[.int .i64 0, .int .i64 0, .int .i64 0, .int .i64 0, .int .i64 0]) 5 40 Try.underlying30 hinf hz0 hz1 hz2 rfl (by decide) _ _ _ rfl (O7.alloc _) ⟨wd.heap.size, 0, none⟩ 1 1 [.int .i64 (n : Int), .int .i64 c, .int .i64 (c + y.1), .int .i64 (c + y.1), .int .i64 (c + y.1 + y.2)] rfl rfl (news_at HQS.out #[.int .i64 (n : Int), .int .i64 c, .int .i64 (c + y.1), .int .i64 (c + y.1), .int .i64 (c + y.1 + y.2)] 38) (by simp [Value.oneCell']) (by unfold maxLen; omega) (by omega) (by rw [World.size_alloc, HQS.out, HQZ.out]; omega) ?_)
          intro v' w6 hown2 hgrow _
          have hnb : ∀ q, some q = u5.ownBlock → w.heap.size ≤ q ∧ q < wr.heap.size := fun q hq => hO1.lt q hq.symm
          have hw7 := HQS.out
          have hw8 := HQZ.out
          have e6 := hgrow.block (wr.heap.size + 1) (by rw [World.size_alloc, hw7, hw8]; omega) (fun e => by have := (hnb _ e).2; omega)
          have X6 : LBoxR w6 (wr.heap.size + 1) (n : Int) c (c + y.1) (c + y.1) (c + y.1 + y.2) := by
            have h2 := HX2.out
            unfold LBoxR at h2 ⊢
            rw [e6, ((Below.refl _ _).alloc (Nat.le_refl _) _).block (wr.heap.size + 1) (by rw [hw7, hw8]; omega)]
            exact h2
          obtain ⟨_, _, y2, _, y4⟩ := X6.cells
          clear X6
          have B6 := hid ((P7.out.alloc P7.out.size _).grown hgrow (by rw [World.size_alloc, hw7, hw8]; omega) (fun q hq => (hnb q hq.symm).1))
          clear hnb hw7 hw8 hgrow O7 e6 x0 x1 x2 x3 x4 xf z0 z1 hO1
          have HOw := hid hown2
          clear hown2 HO HB P7
          go_wp2
          go_roundw
          case rel => exact ⟨k + 1, by omega, by go_num, by rw [HCk.out], by rw [HKk.out], by unfold Hid; rw [runC_succ, HShC.out]; simpa using HOw.out, B6⟩
          case measure => simp [intOf]; omega
    · obtain rfl : k = o.length := by omega
      have hd : decide (o.length < o.length) = false := decide_eq_false (Nat.lt_irrefl _)
      obtain ⟨A2, c2, rfl, h2, _⟩ := own_shs HO.out (by omega)
      go_wp2
      go_ret
      exact ⟨HB.out, A2, c2, rfl, h2⟩
end Go.Proofs.Yteolckphafblmaa
