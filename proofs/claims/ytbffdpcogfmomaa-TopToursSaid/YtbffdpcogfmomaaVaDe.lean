/- The document's check, Check and Drive: chapter 8. -/
import Derived.Test.YtbffdpcogfmomaaVaDp
import Derived.Deep.Cut
/- The drive of the document: chapter 8. -/
set_option linter.unusedVariables false
namespace Go.Proofs.Ytbffdpcogfmomaa
open Go.RowKit

theorem four_cell {w : World} {B : Nat} {u v x y : Value} {t : TypeId} (h : w.heap[B]? = some (.cells #[u, v, x, y] t (0, 0))) : w.cell? ⟨B, 0, none⟩ = some u ∧ w.cell? ⟨B, 2, none⟩ = some x := by
  unfold World.cell?; simp [h]
theorem three_all {w : World} {B : Nat} {u v x : Value} {t : TypeId} (h : w.heap[B]? = some (.cells #[u, v, x] t (0, 0))) : w.cell? ⟨B, 0, none⟩ = some u ∧ w.cell? ⟨B, 1, none⟩ = some v ∧ w.cell? ⟨B, 2, none⟩ = some x := by
  unfold World.cell?; simp [h]
theorem three_free {w : World} {B : Nat} {cs : Array Value} {t : TypeId} (h : w.heap[B]? = some (.cells cs t (0, 0))) (j : Nat) : w.frozen? ⟨B, j, none⟩ = false := by
  unfold World.frozen?; simp [h]
theorem size_alloc1 (w : World) (o : Obj) : (w.alloc o).heap.size = w.heap.size + 1 := by simp
theorem rvisit_info : (Try.prog.info? 60).map (fun i => (i.zero, i.size, i.bytes)) = some (some (.agg #[.int .i64 0, .int .i64 0, .int .i64 0]), 3, 24) := by kernel_rfl
set_option maxRecDepth 100000 in
set_option maxHeartbeats 8000000 in
theorem rDrive_any (a A B : Option Addr) (t : Tbl) (l : List St) (o : List Int) (b : Int) (cap c d : Nat) (w : World) (h : TabAt w a t) (hs : StsAt w A l) (hi : Ints w B o) (ht : Ways t) (hl : StsOk l t.length) (ho : StopsOk o t.length) (hb : 0 ≤ b ∧ b ≤ 10000) (hol : o.length ≤ 100) :
  Calls Try.prog 79 #[.slice a t.length cap, .slice A l.length c, .slice B o.length d, .int .i64 b] w (DriveV 60 t l o b w) := by
  obtain ⟨i0, hinf, hz0, hz1, hz2⟩ := info_parts rvisit_info
  have hpos := ht.pos
  have hl7 := ht.len
  have HTab := hid h
  have HS := hid hs
  have HI := hid hi
  have HT := hid ht
  have HL := hid hl
  have HO := hid ho
  have HLv := hid (fun k hk => lv_bd ht hl ho hb k hk)
  have hll := hl.len
  have HLL := hid hll
  clear h hs hi ht hl ho hb hll
  go_enter Try.func79, Try.ntmps79
  go_wp2_with fail
  go_loopw [3, 10, 11, 12] (fun m v p i wr => ∃ (k : Nat), k ≤ o.length ∧ i = .int .i64 k ∧ p = .int .i64 (lastP o k) ∧ m = .int .i64 (lv t l o b k) ∧ Hid (wr.ownsRow w.heap.size 60 3 v k (visC t l o b k)) ∧ Hid (Below w.heap.size w wr)) (fun _ _ _ i _ => o.length - (intOf i).toNat)
  case atStart => exact ⟨0, Nat.zero_le _, rfl, rfl, rfl, ⟨rfl, .inl ⟨rfl, rfl⟩⟩, Below.refl _ _⟩
  case round =>
    obtain ⟨k, hk, rfl, rfl, rfl, HOw, HB⟩ := hrel
    have hp := lastP_in HO.out hpos hk
    have hm := HLv.out k hk
    obtain ⟨b1, o1, rfl, HC⟩ := (HTab.out.below HB.out).sq HT.out.sq hpos
    by_cases hlt : k < o.length
    · obtain ⟨b2, o2, rfl, hc2⟩ := (HI.out.below HB.out).at' (by omega)
      have c0 := hc2 k hlt
      rw [show o[k]?.getD 0 = vAt o k from rfl] at c0
      have hx := HO.out _ (vAt_mem hlt)
      have hw := HT.out.bdI _ (vAt o k) hp ⟨by omega, hx.2⟩
      have hst := stI_ok HL.out (x := vAt o k) ⟨by omega, hx.2⟩
      obtain ⟨b3, o3, rfl, hc3⟩ := (HS.out.below HB.out).open_ (by rw [HLL.out]; omega)
      have HA := hid (show ar t l o b k = max (lv t l o b k + tA t (lastP o k) (vAt o k)) (stI l (vAt o k)).op from rfl)
      have HN := hid (lv_succ t l o b k)
      have HV := hid (show visC t l o b (k + 1) = visC t l o b k ++ [.int .i64 (vAt o k), .int .i64 (ar t l o b k), .int .i64 (lv t l o b (k + 1))] from rfl)
      have HLa := hid (lastP_succ o k)
      have hn := HLv.out (k + 1) hlt
      rw [HN.out] at hn
      rw [HN.out] at HV
      obtain ⟨x, hx0⟩ : ∃ x, vAt o k = x := ⟨_, rfl⟩
      obtain ⟨q, hq0⟩ : ∃ q, lastP o k = q := ⟨_, rfl⟩
      have HX0' := hid hx0
      rw [hx0] at c0 hx hw hst HA HN HV hn HLa
      rw [hq0] at hp hw HA
      obtain ⟨xn, rfl⟩ := Int.eq_ofNat_of_zero_le (show 0 ≤ x by omega)
      have HX0 := HX0'
      clear HX0'
      obtain ⟨qn, rfl⟩ := Int.eq_ofNat_of_zero_le hp.1
      obtain ⟨b4, o4, c4, g1, _, g2⟩ := HC qn (by omega)
      have g3 := g2 xn (by omega)
      obtain ⟨s0, _, s2, _⟩ := hc3 xn (by rw [HLL.out]; omega)
      rw [show stAt l xn = stI l (xn : Int) from rfl] at s0 s2
      have hOw := HOw.out
      obtain ⟨m0, hm0⟩ : ∃ m0, lv t l o b k = m0 := ⟨_, rfl⟩
      obtain ⟨e1, he1⟩ : ∃ e1, tA t (qn : Int) (xn : Int) = e1 := ⟨_, rfl⟩
      obtain ⟨so, hso⟩ : ∃ so, (stI l (xn : Int)).op = so := ⟨_, rfl⟩
      obtain ⟨ss, hss⟩ : ∃ ss, (stI l (xn : Int)).sy = ss := ⟨_, rfl⟩
      obtain ⟨pre, hpre⟩ : ∃ pre, visC t l o b k = pre := ⟨_, rfl⟩
      rw [hm0] at hm HA
      rw [he1] at hw g3 HA
      rw [hso] at s0 hst HA
      rw [hss] at s2 hst HN HV hn
      rw [HA.out] at HN HV hn
      have hcl := visC_len t l o b k
      rw [hpre] at hOw HV hcl
      rw [hm0, hq0]
      obtain ⟨⟨t1, t2⟩, _, ⟨t3, t4⟩, _⟩ := hst
      have HCL := hid hcl
      have q1 : (xn : Int) < (t.length : Int) := hx.2
      have q2 : (qn : Int) < (t.length : Int) := hp.2
      have q3 : (xn : Int) < (l.length : Int) := by rw [HLL.out]; exact hx.2
      have w1 : IntKind.i64.wrap (m0 + e1) = m0 + e1 := IntWalk.i64_in _ (by omega)
      have w2 : IntKind.i64.wrap (max (m0 + e1) so + ss) = max (m0 + e1) so + ss := IntWalk.i64_in _ (by omega)
      have hbs := HB.out.size
      clear hcl HC hc2 hc3 g2 HA hx0 hq0 hm0 he1 hso hss hx hp
      have HOw := hid hOw
      clear hpre hOw
      have hal := (Below.refl wr.heap.size wr).alloc (Nat.le_refl _) (.cells #[.int .i64 so, .int .i64 (stAt l xn).cl, .int .i64 ss, .int .i64 (stAt l xn).bx] 105)
      have hz := heap_alloc_new wr (.cells #[.int .i64 so, .int .i64 (stAt l xn).cl, .int .i64 ss, .int .i64 (stAt l xn).bx] 105)
      have f0 := (four_cell hz).1
      have f2 := (four_cell hz).2
      have c0' := (hal.cell (cell_lt c0)).trans c0
      have g1' := (hal.cell (cell_lt g1)).trans g1
      have g3' := (hal.cell (cell_lt g3)).trans g3
      have HC0 := hid c0
      go_wp2_with fail
      clear hz c0 g1 g3 s0 s2
      generalize hw9 : wr.alloc (.cells #[.int .i64 so, .int .i64 (stAt l xn).cl, .int .i64 ss, .int .i64 (stAt l xn).bx] 105) = w9 at *
      have hal2 := (Below.refl w9.heap.size w9).alloc (Nat.le_refl _) (.cells #[.int .i64 0, .int .i64 0, .int .i64 0] 60)
      have hz2 := heap_alloc_new w9 (.cells #[.int .i64 0, .int .i64 0, .int .i64 0] 60)
      have F0 : (w9.alloc (.cells #[.int .i64 0, .int .i64 0, .int .i64 0] 60)).drew.cell? ⟨wr.heap.size, 0, none⟩ = some (.int .i64 so) := (hal2.cell (cell_lt f0)).trans f0
      have C0 : (w9.alloc (.cells #[.int .i64 0, .int .i64 0, .int .i64 0] 60)).drew.cell? ⟨b2, o2 + k, none⟩ = some (.int .i64 (xn : Int)) := (hal2.cell (cell_lt c0')).trans c0'
      have G1 := show (w9.alloc (.cells #[.int .i64 0, .int .i64 0, .int .i64 0] 60)).drew.cell? _ = _ from (hal2.cell (cell_lt g1')).trans g1'
      have G3 := show (w9.alloc (.cells #[.int .i64 0, .int .i64 0, .int .i64 0] 60)).drew.cell? _ = _ from (hal2.cell (cell_lt g3')).trans g3'
      have Z0 : (w9.alloc (.cells #[.int .i64 0, .int .i64 0, .int .i64 0] 60)).drew.cell? ⟨w9.heap.size, 0, none⟩ = some (.int .i64 0) := (three_all hz2).1
      have Z1 : (w9.alloc (.cells #[.int .i64 0, .int .i64 0, .int .i64 0] 60)).drew.cell? ⟨w9.heap.size, 1, none⟩ = some (.int .i64 0) := (three_all hz2).2.1
      have Z2 : (w9.alloc (.cells #[.int .i64 0, .int .i64 0, .int .i64 0] 60)).drew.cell? ⟨w9.heap.size, 2, none⟩ = some (.int .i64 0) := (three_all hz2).2.2
      have N0 : ∀ j, (w9.alloc (.cells #[.int .i64 0, .int .i64 0, .int .i64 0] 60)).drew.frozen? ⟨w9.heap.size, j, none⟩ = false := three_free hz2
      have N1 := N0 0
      have N2 := N0 1
      have N3 := N0 2
      go_region
      have hal3 := (Below.refl w9.heap.size w9).alloc (Nat.le_refl _) (.cells #[.int .i64 (xn : Int), .int .i64 (max (m0 + e1) so), .int .i64 0] 60)
      have hz3 : (w9.alloc (.cells #[.int .i64 (xn : Int), .int .i64 (max (m0 + e1) so), .int .i64 0] 60)).drew.heap[w9.heap.size]? = some (.cells #[.int .i64 (xn : Int), .int .i64 (max (m0 + e1) so), .int .i64 0] 60) := heap_alloc_new w9 (.cells #[.int .i64 (xn : Int), .int .i64 (max (m0 + e1) so), .int .i64 0] 60)
      have f2' : (w9.alloc (.cells #[.int .i64 (xn : Int), .int .i64 (max (m0 + e1) so), .int .i64 0] 60)).drew.cell? ⟨wr.heap.size, 2, none⟩ = some (.int .i64 ss) := (hal3.cell (cell_lt f2)).trans f2
      have C0' : (w9.alloc (.cells #[.int .i64 (xn : Int), .int .i64 (max (m0 + e1) so), .int .i64 0] 60)).drew.cell? ⟨b2, o2 + k, none⟩ = some (.int .i64 (xn : Int)) := (hal3.cell (cell_lt c0')).trans c0'
      have hs9 : w9.heap.size = wr.heap.size + 1 := by rw [← hw9]; exact size_alloc1 _ _
      have HBd : Hid (Below wr.heap.size wr (w9.alloc (.cells #[.int .i64 (xn : Int), .int .i64 (max (m0 + e1) so), .int .i64 0] 60)).drew) := hid ((hal.trans (hal3.mono (by omega))).drew)
      clear F0 C0 G1 G3 Z0 Z1 Z2 N0 N1 N2 N3 hz2 hal2 hal3 f0 f2 c0' g1' g3' hal hw9
      generalize hw10 : (w9.alloc (.cells #[.int .i64 (xn : Int), .int .i64 (max (m0 + e1) so), .int .i64 0] 60)).drew = w10 at *
      generalize max (m0 + e1) so = a1 at *
      obtain ⟨n9, hn9⟩ : ∃ n9, w9.heap.size = n9 := ⟨_, rfl⟩
      rw [hn9] at hz3 hs9
      rw [hn9]
      clear hw10 hn9
      have Z0 := (three_all hz3).1
      have Z1 := (three_all hz3).2.1
      have Z2 := (three_all hz3).2.2
      have N2 := three_free hz3 2
      as_aux_lemma =>
        have hz4 : (w10.setCell ⟨n9, 2, none⟩ (.int .i64 (a1 + ss))).heap[n9]? = some (.cells #[.int .i64 (xn : Int), .int .i64 a1, .int .i64 (a1 + ss)] 60 (0, 0)) := by rw [heap_setCell_same _ _ _ _ _ _ hz3]; rfl
        have HB4 := hid (HBd.out.setCell (p := ⟨n9, 2, none⟩) (show wr.heap.size ≤ n9 by omega) (.int .i64 (a1 + ss)))
        have HZ4 := hid hz4
        have Y0 := (three_all hz4).1
        have Y1 := (three_all hz4).2.1
        have Y2 := (three_all hz4).2.2
        have C0'' : (w10.setCell ⟨n9, 2, none⟩ (.int .i64 (a1 + ss))).cell? ⟨b2, o2 + k, none⟩ = some (.int .i64 (xn : Int)) := (HB4.out.cell (cell_lt HC0.out)).trans HC0.out
        have HOw4 := hid (own_below HOw.out HB4.out)
        have hn9 : wr.heap.size ≤ n9 := by omega
        clear hz3 hz4 HBd hs9
        go_upto_region 9 with (fail)
        obtain ⟨w8, hw8⟩ : ∃ w8, w10.setCell ⟨n9, 2, none⟩ (.int .i64 (a1 + ss)) = w8 := ⟨_, rfl⟩
        rw [hw8] at HB4 HZ4 Y0 Y1 Y2 C0'' HOw4
        rw [hw8]
        have hs8 := HB4.out.size
        have HB8 := hid (HB.out.trans (HB4.out.mono hbs))
        have hb8 := HB8.out.size
        clear hw8 Z0 Z1 Z2 N2 f2' C0' w2
        go_wp2_with (at_builtin; refine wpList_append_own _ rfl _ _ 54 rfl w.heap.size 60 i0 (.agg #[.int .i64 0, .int .i64 0, .int .i64 0]) 3 24 Try.underlying54 hinf hz0 hz1 hz2 rfl (by decide) _ _ _ rfl (HOw4.out.alloc _) ⟨w8.heap.size, 0, none⟩ 1 1 [.int .i64 (xn : Int), .int .i64 a1, .int .i64 (a1 + ss)] rfl rfl ?c1 ?c2 ?c3 ?c4 ?c5 ?_)
        case c1 => exact World.news_of_block (cs := #[.int .i64 (xn : Int), .int .i64 a1, .int .i64 (a1 + ss)]) (t := 60) (fr := (0, 0)) (heap_alloc_new w8 _)
        case c2 => simp [Value.oneCell']
        case c3 => unfold maxLen; omega
        case c4 => omega
        case c5 => simp; omega
        intro v' w6 hown6 hgrow6 _
        have p6 := hid ((HB8.out.alloc hb8 (.cells #[.int .i64 (xn : Int), .int .i64 a1, .int .i64 (a1 + ss)] 60)).grown hgrow6 (by simp; omega) (fun q hq => by have := (HOw4.out.lt q hq).1; omega))
        have O6 := hid (show w6.ownsRow w.heap.size 60 3 v' (k + 1) (visC t l o b (k + 1)) by rw [HV.out]; exact hown6)
        have hl9 := lt_block HZ4.out
        have hz6 : w6.heap[n9]? = some (.cells #[.int .i64 (xn : Int), .int .i64 a1, .int .i64 (a1 + ss)] 60 (0, 0)) := by
          rw [hgrow6.block n9 (by simp; omega) (fun e => by have := (HOw.out.lt n9 e.symm).2; omega), ((Below.refl w8.heap.size w8).alloc (Nat.le_refl _) _).block n9 hl9]
          exact HZ4.out
        have X2 := (three_all hz6).2.2
        have X3 : w6.cell? ⟨b2, o2 + k, none⟩ = some (.int .i64 (xn : Int)) := by
          obtain ⟨b2', o2', e2, hc6⟩ := (HI.out.below p6.out).at' (show 0 < o.length by omega)
          simp only [Option.some.injEq, Addr.mk.injEq, and_true] at e2
          obtain ⟨rfl, rfl⟩ := e2
          have e3 := hc6 k hlt
          rw [show o[k]?.getD 0 = vAt o k from rfl, HX0.out] at e3
          exact e3
        clear hz6 hown6 hgrow6 Y0 Y1 Y2 C0''
        go_wp2_with fail
        go_roundw
        case rel => exact ⟨k + 1, by omega, by go_num, by rw [HLa.out], by rw [HN.out], O6, p6⟩
        case measure => simp [intOf]; omega
    · as_aux_lemma =>
      obtain rfl : k = o.length := by omega
      have hOw := HOw.out
      obtain ⟨A9, c9, hv9⟩ : ∃ A9 c9, u10 = .slice A9 o.length c9 := by
        rcases hOw.2 with ⟨hv, hn⟩ | ⟨g, c, cur, hv, _⟩
        · exact ⟨none, 0, by rw [hv, hn]⟩
        · exact ⟨_, _, hv⟩
      subst hv9
      have HE := hid (show backD t l o b = lv t l o b o.length + tA t (lastP o o.length) 0 from rfl)
      have hw := HT.out.bdI _ 0 hp ⟨by omega, by omega⟩
      obtain ⟨q, hq0⟩ : ∃ q, lastP o o.length = q := ⟨_, rfl⟩
      obtain ⟨m0, hm0⟩ : ∃ m0, lv t l o b o.length = m0 := ⟨_, rfl⟩
      rw [hq0] at hp hw HE
      rw [hm0] at hm HE
      obtain ⟨qn, rfl⟩ := Int.eq_ofNat_of_zero_le hp.1
      obtain ⟨b4, o4, c4, g1, _, g2⟩ := HC qn (by omega)
      have g3 := g2 0 (by omega)
      rw [show tA t (qn : Int) ((0 : Nat) : Int) = tA t (qn : Int) 0 from rfl, Nat.add_zero] at g3
      obtain ⟨e1, he1⟩ : ∃ e1, tA t (qn : Int) 0 = e1 := ⟨_, rfl⟩
      rw [he1] at hw g3 HE
      rw [hm0, hq0]
      have q2 : (qn : Int) < (t.length : Int) := hp.2
      have q0 : (0 : Int) < (t.length : Int) := by omega
      have w1 : IntKind.i64.wrap (m0 + e1) = m0 + e1 := IntWalk.i64_in _ (by omega)
      have HOw2 := hid hOw
      clear HC g2 hq0 hm0 he1 hp hOw HOw
      go_wp2_with fail
      go_quiet (fail)
      go_wp2
      go_ret2
      exact ⟨below_drewN HB.out _, A9, c9, by rw [HE.out]; rfl, own_below HOw2.out (below_drewN (Below.refl _ _) _)⟩
end Go.Proofs.Ytbffdpcogfmomaa
set_option linter.unusedVariables false
namespace Go.Proofs.Ytbffdpcogfmomaa
open Go.RowKit

/-- What check answers. -/
def ChkI (t : Tbl) (l : List St) (o : List Int) (b : Int) (w : World) (en : Ending) (w' : World) : Prop :=
  Below w.heap.size w w' ∧ ∃ m : Nat, FirstL t l o b m ∧ en = .returned (.tuple #[.int .i64 (if m < o.length then (m : Int) else backD t l o b), .bool (decide (m = o.length))])
set_option maxRecDepth 100000 in
set_option maxHeartbeats 4000000 in
theorem rCheckI_any (a A B : Option Addr) (t : Tbl) (l : List St) (o : List Int) (b : Int) (cap c d : Nat) (w : World) (h : TabAt w a t) (hs : StsAt w A l) (hi : Ints w B o) (ht : Ways t) (hl : StsOk l t.length) (ho : StopsOk o t.length) (hb : 0 ≤ b ∧ b ≤ 10000) (hol : o.length ≤ 100) :
  Calls Try.prog 82 #[.slice a t.length cap, .slice A l.length c, .slice B o.length d, .int .i64 b] w (ChkI t l o b w) := by
  have HD := hid (rDrive_any a A B t l o b cap c d w h hs hi ht hl ho hb hol)
  have HS := hid hs
  have HLL := hid hl.len
  have HO := hid ho
  have hl7 := ht.len
  clear h hs hi ht hl ho
  go_enter Try.func82, Try.ntmps82
  go_wp2_with fail
  refine HD.out.mono ?_
  rintro e w1 ⟨hb1, V, e1, rfl, hV⟩
  have hVs : o.length = 0 ∨ ∃ g, V = some ⟨g, 0, none⟩ ∧ ∀ k, k < o.length → w1.cell? ⟨g, k * 3, none⟩ = some (.int .i64 (vAt o k)) ∧ w1.cell? ⟨g, k * 3 + 1, none⟩ = some (.int .i64 (ar t l o b k)) := by
    rcases hV.2 with ⟨_, h0⟩ | ⟨g, cap, cur, hv, _⟩
    · exact .inl h0
    · simp only [Value.slice.injEq, true_and] at hv
      obtain ⟨rfl, rfl⟩ := hv
      refine .inr ⟨g, rfl, fun k hk => ?_⟩
      obtain ⟨h1, h2, h3⟩ := visC_at t l o b o.length k hk
      exact ⟨(World.ownsRow.cellAt hV _ (by omega)).trans h1, (World.ownsRow.cellAt hV _ (by omega)).trans h2⟩
  have HV := hid hVs
  have HB1 := hid hb1
  have HS1 := hid (HS.out.below hb1)
  clear hV hVs hb1 HD HS
  go_wp2_with fail
  go_loopw [12] (fun i wr => ∃ (k : Nat), k ≤ o.length ∧ i = .int .i64 k ∧ Hid (∀ j, j < k → ar t l o b j ≤ (stI l (vAt o j)).cl) ∧ Hid (Below w1.heap.size w1 wr)) (fun i _ => o.length - (intOf i).toNat)
  case atStart => exact ⟨0, Nat.zero_le _, rfl, fun j hj => by omega, Below.refl _ _⟩
  case round =>
    obtain ⟨k, hk, rfl, HG, HB⟩ := hrel
    have HBw := hid (HB1.out.trans (HB.out.mono HB1.out.size))
    by_cases hlt : k < o.length
    · rcases HV.out with h0 | ⟨g, rfl, hc⟩
      · omega
      obtain ⟨v0, v1⟩ := hc k hlt
      have c0 := (HB.out.cell (cell_lt v0)).trans v0
      have c1 := (HB.out.cell (cell_lt v1)).trans v1
      have hx := HO.out _ (vAt_mem hlt)
      obtain ⟨b3, o3, rfl, hc3⟩ := (HS1.out.below HB.out).open_ (by rw [HLL.out]; omega)
      have HY := hid (fun (e : ar t l o b k ≤ (stI l (vAt o k)).cl) => show ∀ j, j < k + 1 → ar t l o b j ≤ (stI l (vAt o j)).cl from fun j hj => by
        rcases Nat.lt_or_ge j k with h | h
        · exact HG.out j h
        · rw [show j = k by omega]; exact e)
      have HN := hid (fun (e : (stI l (vAt o k)).cl < ar t l o b k) => show FirstL t l o b k from ⟨hk, HG.out, fun _ => e⟩)
      obtain ⟨x, hx0⟩ : ∃ x, vAt o k = x := ⟨_, rfl⟩
      rw [hx0] at c0 hx HY HN
      obtain ⟨xn, rfl⟩ := Int.eq_ofNat_of_zero_le (show 0 ≤ x by omega)
      obtain ⟨_, s1, _, _⟩ := hc3 xn (by rw [HLL.out]; omega)
      rw [show stAt l xn = stI l (xn : Int) from rfl] at s1
      obtain ⟨a1, ha1⟩ : ∃ a1, ar t l o b k = a1 := ⟨_, rfl⟩
      obtain ⟨s9, hs9⟩ : ∃ s9, (stI l (xn : Int)).cl = s9 := ⟨_, rfl⟩
      rw [ha1] at c1 HY HN
      rw [hs9] at s1 HY HN
      have q3 : (xn : Int) < (l.length : Int) := by rw [HLL.out]; exact hx.2
      clear v0 v1 hc hc3 ha1 hs9 hx0
      by_cases hc : s9 < a1
      · have HZ := hid (HN.out hc)
        clear HY HN
        as_aux_lemma =>
          go_wp2_with fail
          go_quiet (fail)
          go_wp2
          go_ret2
          exact ⟨below_drewN HBw.out _, k, HZ.out, by rw [if_pos hlt, decide_eq_false (by omega)]; rfl⟩
      · have hc' : a1 ≤ s9 := by omega
        have HZ := hid (HY.out hc')
        clear HY HN hc
        as_aux_lemma =>
          go_wp2_with fail
          go_quiet (fail)
          go_wp2
          go_roundw
          case rel => exact ⟨k + 1, by omega, by go_num, HZ, below_drewN HB.out _⟩
          case measure => simp [intOf]; omega
    · obtain rfl : k = o.length := by omega
      have HZ := hid (show FirstL t l o b o.length from ⟨Nat.le_refl _, HG.out, fun h => by omega⟩)
      go_wp2
      go_ret2
      exact ⟨HBw.out, o.length, HZ.out, by rw [if_neg (by omega), decide_eq_true rfl]; rfl⟩
theorem drvE_zin {t : Tbl} {l : List St} {o : List Int} {b : Int} (h : touE t l o = 0) (h2 : zin b 0 10000 = true) : drvE t l o b = 0 := by unfold drvE; rw [if_pos h, if_pos h2]
theorem drvE_out {t : Tbl} {l : List St} {o : List Int} {b : Int} (h : touE t l o = 0) (h2 : zin b 0 10000 = false) : drvE t l o b = 1 := by unfold drvE; rw [if_pos h, if_neg (by simp [h2])]
theorem drvE_tou {t : Tbl} {l : List St} {o : List Int} {b : Int} (h : touE t l o ≠ 0) : drvE t l o b = touE t l o := by unfold drvE; rw [if_neg h]
set_option maxRecDepth 100000 in
set_option maxHeartbeats 4000000 in
theorem rCheck_any (a A B : Option Addr) (t : Tbl) (l : List St) (o : List Int) (b : Int) (cap c d : Nat) (w : World) (h : TabAt w a t) (hs : StsAt w A l) (hi : Ints w B o) (hol : o.length ≤ 100) :
  Calls Try.prog 47 #[.slice a t.length cap, .slice A l.length c, .slice B o.length d, .int .i64 b] w (ChkR t l o b w) := by
  have HV := hid (rToured_any a A B t l o cap c d w h hs hi)
  by_cases hv : touE t l o = 0
  · rw [hv] at HV
    have HW := hid (fun (W : World) => rWithin8_any b 0 10000 W)
    cases hz : zin b 0 10000 with
    | true =>
      have hdv := drvE_zin hv hz
      obtain ⟨ht, hl, ho, _, hb⟩ := drvE_ok hdv
      have HD := hid (fun (W : World) (hb2 : Below w.heap.size w W) => rCheckI_any a A B t l o b cap c d W (h.below hb2) (hs.below hb2) (hi.below hb2) ht hl ho hb hol)
      have HE := hid hdv
      rw [hz] at HW
      clear h hs hi hv ht hl ho hb hz hdv
      go_enter Try.func47, Try.ntmps47
      go_wp2_with fail
      refine HV.out.mono ?_
      rintro e w1 ⟨hb1, rfl⟩
      have HB1 := hid hb1
      have HC := hid (HD.out w1 hb1)
      clear hb1
      go_wp2_with fail
      refine (HW.out _).mono ?_
      rintro e w2 ⟨rfl, rfl⟩
      go_wp2_with fail
      refine HC.out.mono ?_
      rintro e w3 ⟨hb3, m, hm, rfl⟩
      have HB3 := hid (HB1.out.trans (hb3.mono HB1.out.size))
      have HM := hid hm
      have hml := hm.le
      clear hb3 hm HC HD
      by_cases hlt : m < o.length
      · rw [if_pos hlt, decide_eq_false (show ¬ m = o.length by omega)]
        go_wp2
        go_ret2
        exact ⟨HB3.out, .inr ⟨HE.out, m, HM.out, by rw [if_pos hlt, if_pos hlt]; rfl⟩⟩
      · rw [if_neg hlt, decide_eq_true (show m = o.length by omega)]
        go_wp2
        go_ret2
        exact ⟨HB3.out, .inr ⟨HE.out, m, HM.out, by rw [if_neg hlt, if_neg hlt]; rfl⟩⟩
    | false =>
      have HE := hid (drvE_out hv hz)
      rw [hz] at HW
      clear h hs hi hv hz
      go_enter Try.func47, Try.ntmps47
      go_wp2_with fail
      refine HV.out.mono ?_
      rintro e w1 ⟨hb1, rfl⟩
      have HB1 := hid hb1
      clear hb1
      go_wp2_with fail
      refine (HW.out _).mono ?_
      rintro e w2 ⟨rfl, rfl⟩
      go_wp2
      go_ret2
      exact ⟨HB1.out, .inl ⟨by rw [HE.out]; decide, by rw [HE.out]; rfl⟩⟩
  · have HE := hid (drvE_tou (b := b) hv)
    obtain ⟨e0, he0⟩ : ∃ e0, touE t l o = e0 := ⟨_, rfl⟩
    rw [he0] at HV hv HE
    have HQ := hid hv
    have hne : (e0 == 0) = false := by simp; exact hv
    have hnn : (e0 != 0) = true := by simp; exact hv
    clear h hs hi he0
    go_enter Try.func47, Try.ntmps47
    go_wp2_with fail
    refine HV.out.mono ?_
    rintro e w1 ⟨hb1, rfl⟩
    have HB1 := hid hb1
    clear hb1
    go_wp2
    go_ret2
    exact ⟨HB1.out, .inl ⟨by rw [HE.out]; exact HQ.out, by rw [HE.out]; rfl⟩⟩
/-- What the document's Drive answers. -/
def DriveRR (t : Tbl) (l : List St) (o : List Int) (b : Int) (w : World) (en : Ending) (w' : World) : Prop :=
  Below w.heap.size w w' ∧ ((drvE t l o b ≠ 0 ∧ en = .returned (.tuple #[.slice none 0 0, .int .i64 0, .int .i64 (drvE t l o b)])) ∨
    (drvE t l o b = 0 ∧ ∃ V e, en = .returned (.tuple #[.slice V o.length e, .int .i64 (backD t l o b), .int .i64 0]) ∧ w'.ownsRow w.heap.size 60 3 (.slice V o.length e) o.length (visC t l o b o.length)))
set_option maxRecDepth 100000 in
set_option maxHeartbeats 4000000 in
theorem rDriveR_any (a A B : Option Addr) (t : Tbl) (l : List St) (o : List Int) (b : Int) (cap c d : Nat) (w : World) (h : TabAt w a t) (hs : StsAt w A l) (hi : Ints w B o) (hol : o.length ≤ 100) :
  Calls Try.prog 43 #[.slice a t.length cap, .slice A l.length c, .slice B o.length d, .int .i64 b] w (DriveRR t l o b w) := by
  have HV := hid (rToured_any a A B t l o cap c d w h hs hi)
  by_cases hv : touE t l o = 0
  · rw [hv] at HV
    have HW := hid (fun (W : World) => rWithin8_any b 0 10000 W)
    cases hz : zin b 0 10000 with
    | true =>
      have hdv := drvE_zin hv hz
      obtain ⟨ht, hl, ho, _, hb⟩ := drvE_ok hdv
      have HD := hid (fun (W : World) (hb2 : Below w.heap.size w W) => rDrive_any a A B t l o b cap c d W (h.below hb2) (hs.below hb2) (hi.below hb2) ht hl ho hb hol)
      have HE := hid hdv
      rw [hz] at HW
      clear h hs hi hv ht hl ho hb hz hdv
      go_enter Try.func43, Try.ntmps43
      go_wp2_with fail
      refine HV.out.mono ?_
      rintro e w1 ⟨hb1, rfl⟩
      have HB1 := hid hb1
      have HC := hid (HD.out w1 hb1)
      have hws := hb1.size
      clear hb1
      go_wp2_with fail
      refine (HW.out _).mono ?_
      rintro e w2 ⟨rfl, rfl⟩
      go_wp2_with fail
      refine HC.out.mono ?_
      rintro e w3 ⟨hb3, V, e2, rfl, hV⟩
      have HB3 := hid (HB1.out.trans (hb3.mono HB1.out.size))
      have HVV := hid (row_lower hV hws)
      clear hb3 hV HC HD
      go_wp2
      go_ret3
      exact ⟨HB3.out, .inr ⟨HE.out, V, e2, rfl, HVV.out⟩⟩
    | false =>
      have HE := hid (drvE_out hv hz)
      rw [hz] at HW
      clear h hs hi hv hz
      go_enter Try.func43, Try.ntmps43
      go_wp2_with fail
      refine HV.out.mono ?_
      rintro e w1 ⟨hb1, rfl⟩
      have HB1 := hid hb1
      clear hb1
      go_wp2_with fail
      refine (HW.out _).mono ?_
      rintro e w2 ⟨rfl, rfl⟩
      go_wp2
      go_ret3
      exact ⟨HB1.out, .inl ⟨by rw [HE.out]; decide, by rw [HE.out]; rfl⟩⟩
  · have HE := hid (drvE_tou (b := b) hv)
    obtain ⟨e0, he0⟩ : ∃ e0, touE t l o = e0 := ⟨_, rfl⟩
    rw [he0] at HV hv HE
    have HQ := hid hv
    have hne : (e0 == 0) = false := by simp; exact hv
    have hnn : (e0 != 0) = true := by simp; exact hv
    clear h hs hi he0
    go_enter Try.func43, Try.ntmps43
    go_wp2_with fail
    refine HV.out.mono ?_
    rintro e w1 ⟨hb1, rfl⟩
    have HB1 := hid hb1
    clear hb1
    go_wp2
    go_ret3
    exact ⟨HB1.out, .inl ⟨by rw [HE.out]; exact HQ.out, by rw [HE.out]; rfl⟩⟩
end Go.Proofs.Ytbffdpcogfmomaa
