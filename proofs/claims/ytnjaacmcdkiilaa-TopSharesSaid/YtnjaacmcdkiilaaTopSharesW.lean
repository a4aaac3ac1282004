/- The theorem TopShares: its walk. -/
import Derived.Test.YtnjaacmcdkiilaaShTopM
import Derived.Test.YtnjaacmcdkiilaaShSome
import Derived.Test.YtnjaacmcdkiilaaShSmall
set_option linter.unusedVariables false
namespace Go.Proofs.Ytnjaacmcdkiilaa
open Go.RowKit

theorem lit3 (w : World) (x y z : Int) (hx : -9223372036854775808 ≤ x ∧ x ≤ 9223372036854775807) (hy : -9223372036854775808 ≤ y ∧ y ≤ 9223372036854775807) (hz : -9223372036854775808 ≤ z ∧ z ≤ 9223372036854775807) : Ints (w.alloc (.cells #[.int .i64 x, .int .i64 y, .int .i64 z] 3)) (some ⟨w.heap.size, 0, none⟩) [x, y, z] := by
  have := World.ownsRow_lit (base := w.heap.size) (e := 3) (size := 1) w #[.int .i64 x, .int .i64 y, .int .i64 z] 3 (Nat.le_refl _) (by unfold maxLen; omega) (by simp)
  refine own_ints (base := w.heap.size) (c := 3) (n := 3) (xs := [x, y, z]) (by simpa using this) rfl (by omega) ?_
  intro a ha
  simp at ha
  rcases ha with rfl | rfl | rfl <;> assumption
theorem six_any (w : World) : Calls Try.prog 17 #[.slice (some ⟨w.heap.size, 0, none⟩) 3 3, .int .i64 6, .int .i64 1] (w.alloc (.cells #[.int .i64 7, .int .i64 2, .int .i64 1] 3)) (ListE (w.alloc (.cells #[.int .i64 7, .int .i64 2, .int .i64 1] 3)) [4, 1, 1] 0) := by
  have := divide_any (some ⟨w.heap.size, 0, none⟩) [7, 2, 1] 3 6 1 _ (lit3 w 7 2 1 (by omega) (by omega) (by omega))
  rw [show divL [7, 2, 1] 6 1 = [4, 1, 1] by decide +kernel, show divE [7, 2, 1] 6 1 = true by decide +kernel] at this
  exact this
theorem same_self2 (a b : Option Addr) (xs : List Int) (n ca cb : Nat) (w : World) (hx : Ints w a xs) (hy : Ints w b xs) (hn : n = xs.length) :
  Calls Try.prog 23 #[.slice a xs.length ca, .slice b n cb] w (BoolR w true) := by
  subst hn
  exact same_self a b xs ca cb w hx hy
/-- The three cells of what else is asked. -/
def ExtW (w0 : World) (g : Nat) (N K : Int) (v : Value) (w : World) : Prop := w.cell? ⟨g, 0, none⟩ = some (.int .i64 N) ∧ w.cell? ⟨g, 1, none⟩ = some (.int .i64 K) ∧ w.cell? ⟨g, 2, none⟩ = some v ∧ Below w0.heap.size w0 w
theorem ExtW.keep {w0 : World} {g : Nat} {N K : Int} {v : Value} {w w2 : World} (h : ExtW w0 g N K v w) (hb : Below w.heap.size w w2) : ExtW w0 g N K v w2 := by
  obtain ⟨a0, a1, a2, p⟩ := h
  exact ⟨by rw [hb.cell (cell_lt a0)]; exact a0, by rw [hb.cell (cell_lt a1)]; exact a1, by rw [hb.cell (cell_lt a2)]; exact a2, p.trans (hb.mono p.size)⟩

theorem row_cell {w : World} {base g n : Nat} {ms : List Int} (m : w.ownsRow base 3 1 (.slice (some ⟨g, 0, none⟩) n n) n (ms.map (Value.int .i64))) (hl : ms.length = n) (c : Nat) (hc : c < n) : w.cell? ⟨g, c, none⟩ = some (.int .i64 (at0 ms c)) ∧ w.frozen? ⟨g, c, none⟩ = false := by
  refine ⟨?_, m.frozenAt c⟩
  rw [m.cellAt c (by omega), List.getElem?_map]
  unfold at0
  rw [List.getElem?_eq_getElem (by omega)]; rfl

set_option maxRecDepth 100000 in
set_option maxHeartbeats 16000000 in
theorem top_ok (oa sa : Option Addr) (os ss : List Int) (oc sc n : Nat) (K : Int) (w : World) (ho : Ints w oa os) (hs : Ints w sa ss) (hl : longI os = false) (hl2 : longI ss = false) (hn : n ≤ 200) (g1 : okO os = true) (g2 : okK K = true) :
  Calls Try.prog 14 #[.slice oa os.length oc, .agg #[.int .i64 (n : Int), .int .i64 K, .slice sa ss.length sc]] w (BoolR w true) := by
  have hBox := hid (show ExtW w w.heap.size (n : Int) K (.slice sa ss.length sc) (w.alloc (.cells #[.int .i64 (n : Int), .int .i64 K, .slice sa ss.length sc] 62)) from ⟨by go_simp, by go_simp, by go_simp, (Below.refl w.heap.size w).alloc (Nat.le_refl _) _⟩)
  obtain ⟨i0, hi, hz0, hz1, hz2⟩ := info_parts int_info
  have HL := hid (fun w => long4_any oa os oc w (by have := ho.len; omega))
  have HL2 := hid (fun w => long4_any sa ss sc w (by have := hs.len; omega))
  rw [hl] at HL
  rw [hl2] at HL2
  have hl60 : ss.length ≤ 60 := by simpa [longI] using hl2
  obtain ⟨six, hsix⟩ : ∃ l : List Int, l = [4, 1, 1] := ⟨_, rfl⟩
  have H6 := hid (six_any (w.alloc (.cells #[.int .i64 (n : Int), .int .i64 K, .slice sa ss.length sc] 62)))
  rw [show (w.alloc (.cells #[.int .i64 (n : Int), .int .i64 K, .slice sa ss.length sc] 62)).heap.size = w.heap.size + 1 by simp, ← hsix] at H6
  have H6v := hid (show ∀ x ∈ six, -9223372036854775808 ≤ x ∧ x ≤ 9223372036854775807 by rw [hsix]; intro x hx; simp at hx; omega)
  have H6l := hid (show six.length ≤ 140737488355328 by rw [hsix]; decide)
  have HSame6 := hid (fun (w' : World) (A : Option Addr) (a : Nat) (h : Ints w' A six) => same_self2 A (some ⟨w'.heap.size, 0, none⟩) six 3 a 3 (w'.alloc (.cells #[.int .i64 4, .int .i64 1, .int .i64 1] 3)) (h.below ((Below.refl _ _).alloc (Nat.le_refl _) _)) (by rw [hsix]; exact lit3 w' 4 1 1 (by omega) (by omega) (by omega)) (by rw [hsix]; rfl))
  clear hsix
  have hdE : divE os (n : Int) K = true := by
    simp only [divE, Bool.and_eq_true]
    exact ⟨⟨g1, by simp [inW]; omega⟩, g2⟩
  have hdL : divL os (n : Int) K = (giveL K os n).2 := by rw [divL, if_pos hdE, Int.toNat_natCast]
  have hoL : ordL os (n : Int) K = (giveL K os n).1 := by rw [ordL, if_pos hdE, Int.toNat_natCast]
  have HOr := hid (fun (w' : World) (hb : Below w.heap.size w w') => order_any oa os oc (n : Int) K w' (ho.below hb))
  have HDi := hid (fun (w' : World) (hb : Below w.heap.size w w') => divide_any oa os oc (n : Int) K w' (ho.below hb))
  rw [hdE, hoL] at HOr
  rw [hdE, hdL] at HDi
  have h8 := okO_len g1
  have hmk := make_ints os.length (by omega)
  have HCl := hid (fun (w' : World) (hb : Below w.heap.size w w') (g j : Nat) (hj : j ≤ 1000) (hm : w'.ownsRow g 3 1 (.slice (some ⟨g, 0, none⟩) os.length os.length) os.length ((giveL K os j).2.map (Value.int .i64))) => by
    have hl := giveL_len2 K os j
    have hk := giveL_ok K os j hj
    have hI := own_ints hm hl (by omega) (small_i64 (giveL_vals K os j hj) (by omega) (by omega))
    have := Claimer_any oa (some ⟨g, 0, none⟩) os (giveL K os j).2 oc os.length K w' (ho.below hb) hI
    rw [hl, show goodV os (giveL K os j).2 K = true by simp [goodV, g1, g2, hk], show claimerL os (giveL K os j).2 K = (bestL K os (giveL K os j).2 : Int) by rw [claimerL, if_pos (by simp [goodV, g1, g2, hk])]] at this
    exact this)
  have gv : goodV os (giveL K os n).2 K = true := by simp [goodV, g1, g2, giveL_ok K os n (by omega)]
  have hOrd := giveL_ordered (kind := K) g1 n (by omega)
  have hHas := top_has gv hOrd
  rw [← giveL_len2 K os n] at hHas
  have HPr := hid (fun (k i : Nat) (hki : k < i) (hi : i < os.length) => ord_pair g1 (giveL_ok K os n (by omega)) hOrd hki hi)
  have HDv := hid (fun (A : Option Addr) (a : Nat) (w' : World) (hb : Below w.heap.size w w') (hm : Ints w' A (giveL K os n).2) => divisor_any oa A os (giveL K os n).2 oc a K w' (ho.below hb) hm)
  have HCk := hid (fun (A : Option Addr) (a : Nat) (w' : World) (hb : Below w.heap.size w w') (hm : Ints w' A (giveL K os n).2) => check4_any oa A os (giveL K os n).2 oc a K (divsL os (giveL K os n).2 K).1 (divsL os (giveL K os n).2 K).2 w' (ho.below hb) hm)
  rw [gv] at HDv
  have HCt := hid (fun h => check_top (os := os) (ms := (giveL K os n).2) (kind := K) h)
  have HBd := hid (fun j k => giveL_bd K os j k)
  have HLn := hid (fun j => giveL_len2 K os j)
  have HLt := hid (fun j => bestL_lt (kind := K) (ms := (giveL K os j).2) h8.1)
  have HAt := hid (fun k hk => giveL_ord_at K os n k hk)
  have HSome := hid (fun (w' : World) (hb : Below w.heap.size w w') (S : Int) => some_any oa sa os ss oc sc S K w' (ho.below hb) (hs.below hb) (by omega))
  have HSs := hid hs
  have HOs := hid ho
  have av := giveL_vals K os n (by omega)
  have lv := (ordL_vals os (n : Int) K).1
  rw [hoL] at lv
  have ll := giveL_len1 K os n
  have hG := hid (show ∀ j, (giveL K os (j + 1)).2 = (giveL K os j).2.set (bestL K os (giveL K os j).2) (at0 (giveL K os j).2 (bestL K os (giveL K os j).2) + 1) from fun j => rfl)
  have hG0 := hid (show (giveL K os 0).2 = List.replicate os.length 0 from rfl)
  have HAv := hid av
  have HLv := hid lv
  have HLl := hid ll
  have HFin := hid (fun (S : Int) (hS : S = sumL (partTo (giveL K os n).2 ss ss.length)) (hE : smE os ss S K = true) => show smL os ss S K = partTo (giveL K os n).2 ss ss.length from by
    have hb : someB ss os.length = true := by rw [smE, Bool.and_eq_true] at hE; exact hE.2
    obtain ⟨m, h1, h2, h3⟩ := give_pick (kind := K) g1 hb n (by omega)
    have e : partTo (giveL K os n).2 ss ss.length = pickL (giveL K os n).2 ss := partTo_pick (giveL_len2 K os n) (someB_iff.1 hb).2 _ (Nat.le_refl _)
    rw [smL, hE, if_pos rfl, e, hS, e, h1, Int.toNat_natCast, h3])
  have HPs := hid (fun k => partTo_sum av ss k)
  have HPl := hid (fun k => partTo_len (giveL K os n).2 ss k)
  have HSl := hid (fun S => smL_vals os ss S K)
  have HHas := hid hHas
  clear hl hl2 hdE hdL hoL gv hOrd av lv ho hs ll hHas
  simp only [show err true = 0 from rfl] at HOr HDi HCl HDv
  have hl8 : os.length ≤ 8 := h8.2.1
  have hl1 : 1 ≤ os.length := h8.1
  clear h8 g1 g2
  have hln := giveL_len2 K os n
  have hln1 : (giveL K os n).2.length ≤ os.length := by omega
  have hln2 : os.length ≤ (giveL K os n).2.length := by omega
  have HLn0 := hid hln
  clear hln
  generalize hdv : divsL os (giveL K os n).2 K = dv at *
  obtain ⟨d1, d2⟩ := dv
  clear hdv
  generalize hck : checkE os (giveL K os n).2 K (d1, d2).1 (d1, d2).2 = ck at *
  clear hck
  generalize hasDiv os (giveL K os n).2 K = hv at *
  generalize hds : (giveL K os n).2 = ds at *
  have HDs := hid hds
  clear hds
  generalize (giveL K os n).1 = es at *
  unfold DivR at HDv
  dsimp only at HDv HCk
  have hnI : (n : Int) ≤ 200 := by omega
  go_enter Try.func14, Try.ntmps14
  go_wp2_with fail
  refine H6.out.mono ?_
  rintro e w1 ⟨q1, A1, a1, rfl, o1⟩
  have hB1 := hid (hBox.out.keep (((Below.refl _ _).alloc (Nat.le_refl _) _).trans (q1.mono (by simp))))
  obtain ⟨_, _, hv1, i1⟩ := o1.ints H6l.out H6v.out
  cases hv1
  clear q1 o1
  go_wp2_with fail
  refine (HSame6.out w1 A1 a1 i1).mono ?_
  rintro e w2 ⟨q2, rfl⟩
  have hB2 := hid (hB1.out.keep (((Below.refl _ _).alloc (Nat.le_refl _) _).trans (q2.mono (by simp))))
  obtain ⟨c0, c1, c2, p2⟩ := hB2.out
  clear q2 i1 hB1 H6 HSame6 H6v H6l
  go_wp2_with fail
  refine (HL.out _).mono ?_
  rintro e w' ⟨rfl, rfl⟩
  go_wp2_with fail
  refine (HL2.out _).mono ?_
  rintro e w' ⟨rfl, rfl⟩
  go_wp2_with fail
  refine (HOr.out _ p2).mono ?_
  rintro e w3 ⟨q3, A3, a3, rfl, o3⟩
  have hB3 := hid (hB2.out.keep q3)
  obtain ⟨_, _, hv3, i3⟩ := o3.ints (by have := HLl.out; omega) (small_i64 HLv.out (by omega) (by omega))
  cases hv3
  have HI3 := hid i3
  clear q3 o3 i3 c0 c1 c2 p2 hB2 HL HL2 HOr
  have S0 := hid (show (w3.alloc (.cells (List.replicate os.length (Value.int .i64 0)).toArray 3)).ownsRow w3.heap.size 3 1 (.slice (some ⟨w3.heap.size, 0, none⟩) os.length os.length) os.length ((giveL K os 0).2.map (Value.int .i64)) ∧ Below w3.heap.size w3 (w3.alloc (.cells (List.replicate os.length (Value.int .i64 0)).toArray 3)) from ⟨own_zeros w3 os.length w3.heap.size (by omega) (Nat.le_refl _), (Below.refl _ _).alloc (Nat.le_refl _) _⟩)
  have hesn : es.length ≤ n := by have := HLl.out; omega
  have hesn2 : n ≤ es.length := by have := HLl.out; omega
  go_wp2
  go_loopw [9] (fun i wr => ∃ j : Nat, j ≤ es.length ∧ i = .int .i64 (j : Int) ∧ Hid (wr.ownsRow w3.heap.size 3 1 (.slice (some ⟨w3.heap.size, 0, none⟩) os.length os.length) os.length ((giveL K os j).2.map (Value.int .i64)) ∧ Below w3.heap.size w3 wr)) (fun i _ => es.length - (intOf i).toNat)
  case atStart => exact ⟨0, Nat.zero_le _, rfl, S0.out⟩
  case round =>
    obtain ⟨j, hj, rfl, HG1⟩ := hrel
    obtain ⟨am, ap⟩ := HG1.out
    have hBr := hid (hB3.out.keep ap)
    obtain ⟨c0, c1, c2, pr⟩ := hBr.out
    by_cases hlt : j < es.length
    · have HN := hid (hG.out j)
      have hlt1 := HLt.out j
      have hat := HAt.out j (by omega)
      have HCj := hid (fun w' hb hm => HCl.out w' hb w3.heap.size j (by omega) hm)
      have hbd := HBd.out j (bestL K os (giveL K os j).2)
      have HLj := hid (HLn.out j)
      generalize bestL K os (giveL K os j).2 = c at *
      generalize (giveL K os j).2 = ms at *
      generalize hx : at0 ms c = x at *
      have HX := hid hx
      clear hx c0 c2
      go_wp2_with fail
      refine (HCj.out _ pr am).mono ?_
      rintro e w4 ⟨q4, rfl⟩
      have am4 := own_below am q4
      have ap4 := ap.trans (q4.mono ap.size)
      rcases (HI3.out.below ap4).at_ with e | ⟨b3, f3, rfl, hc⟩
      · rw [e] at hlt; simp at hlt
      have d3 := hc j hlt
      unfold at0 at hat
      rw [hat] at d3
      obtain ⟨e0, e1⟩ := row_cell am4 HLj.out c hlt1
      rw [HX.out] at e0
      have hjI : (j : Int) < (es.length : Int) := by omega
      have hj0 : (0 : Int) ≤ (j : Int) := by omega
      have hc0 : (0 : Int) ≤ (c : Int) := by omega
      have hc1 : (c : Int) < (os.length : Int) := by omega
      have hcc : ((c : Int) != (c : Int)) = false := by simp
      have hw1 : IntKind.i64.wrap (x + 1) = x + 1 := IntWalk.i64_in _ (by omega)
      clear hc hat am ap pr HG1 hBr c1 q4
      have HA4 := hid am4
      have HP4 := hid ap4
      clear am4 ap4
      go_wp2
      go_roundw
      case rel => exact ⟨j + 1, by omega, by go_num, by unfold Hid; rw [HN.out]; refine ⟨?_, HP4.out.setCell (by simp) _⟩; rw [List.map_set]; exact (HA4.out.stored c _).1⟩
      case measure => simp [intOf]; omega
    · obtain rfl : j = n := by omega
      rw [HDs.out] at am
      clear hBr S0 HG1 c2 hG hG0 HCl HLt HBd HAt hmk
      have hm4 := hid am
      go_wp2_with fail
      refine (HDi.out _ pr).mono ?_
      rintro e w5 ⟨q5, A5, a5, rfl, o5⟩
      have hB5 := hid ((hB3.out.keep ap).keep q5)
      obtain ⟨_, _, hv5, i5⟩ := o5.ints (by omega) (small_i64 HAv.out (by omega) (by omega))
      cases hv5
      have iM := own_ints (own_below hm4.out q5) HLn0.out (by omega) (small_i64 HAv.out (by omega) (by omega))
      clear o5 q5 c0 c1 pr ap am hm4 HDi
      go_wp2_with fail
      refine (same_self2 A5 _ ds os.length a5 _ w5 i5 iM HLn0.out.symm).mono ?_
      rintro e w6 ⟨q6, rfl⟩
      have hB6 := hid (hB5.out.keep q6)
      have HI6 := hid (i5.below q6)
      obtain ⟨c0, c1, c2, p6⟩ := hB6.out
      have HO6 := hid (HOs.out.below p6)
      clear q6 i5 iM hB5 hB3 c0 c1 c2
      go_wp2
      go_loopw [14, 15] (fun z i wr => ∃ j : Nat, j ≤ ds.length ∧ z = .bool (zeroTo ds j) ∧ i = .int .i64 (j : Int) ∧ Hid (∃ m, wr = w6.drewN m)) (fun _ i _ => ds.length - (intOf i).toNat)
      case atStart => exact ⟨0, Nat.zero_le _, rfl, rfl, ⟨0, rfl⟩⟩
      case round =>
        obtain ⟨q, hq, rfl, rfl, HW⟩ := hrel
        by_cases hlt : q < ds.length
        · rcases HI6.out.at_ with e | ⟨b5, f5, rfl, hc5⟩
          · rw [e] at hlt; simp at hlt
          rcases HO6.out.at_ with e | ⟨bo, fo, rfl, hco⟩
          · rw [e] at hl1; simp at hl1
          have HC5 := hid hc5
          have HCo := hid hco
          clear hc5 hco
          have d0 : wr.cell? ⟨b5, f5 + q, none⟩ = some (.int .i64 (ds[q]?.getD 0)) := by obtain ⟨m, e⟩ := HW.out; rw [e]; exact HC5.out q hlt
          have HD6 := hid (HC5.out q hlt)
          have HZ := hid (show zeroTo ds (q + 1) = (zeroTo ds q || (ds[q]?.getD 0 == 0)) from rfl)
          have hqv := HAv.out _ (getD_mem ds q hlt)
          have hq0 : (0 : Int) ≤ (q : Int) := by omega
          have hq1 : (q : Int) < (ds.length : Int) := by omega
          have hq2 : (q : Int) < (os.length : Int) := by omega
          have HPq := hid (fun k hk => HPr.out k q hk (by omega))
          unfold at0 at HPq
          generalize hy : ds[q]?.getD 0 = y at *
          have HY := hid hy
          clear hy
          generalize zeroTo ds q = z at *
          cases z
          all_goals
            go_wp2
            go_loopw [16] (fun i wx => ∃ k : Nat, k ≤ q ∧ i = .int .i64 (k : Int) ∧ Hid (∃ m, wx = w6.drewN m)) (fun i _ => q - (intOf i).toNat)
            case atStart => exact ⟨0, Nat.zero_le _, rfl, HW⟩
            case round =>
              obtain ⟨k, hk, rfl, HX⟩ := hrel
              by_cases hlk : k < q
              · have e0 : wr.cell? ⟨b5, f5 + q, none⟩ = some (.int .i64 y) := by obtain ⟨m, e⟩ := HX.out; rw [e]; exact HD6.out
                have e1 : wr.cell? ⟨b5, f5 + k, none⟩ = some (.int .i64 (ds[k]?.getD 0)) := by obtain ⟨m, e⟩ := HX.out; rw [e]; exact HC5.out k (by omega)
                have e2 : wr.cell? ⟨bo, fo + q, none⟩ = some (.int .i64 (os[q]?.getD 0)) := by obtain ⟨m, e⟩ := HX.out; rw [e]; exact HCo.out q (by omega)
                have e3 : wr.cell? ⟨bo, fo + k, none⟩ = some (.int .i64 (os[k]?.getD 0)) := by obtain ⟨m, e⟩ := HX.out; rw [e]; exact HCo.out k (by omega)
                obtain ⟨hp1, hp2⟩ := HPq.out k hlk
                have hkv := HAv.out _ (getD_mem ds k (by omega))
                have hk0 : (0 : Int) ≤ (k : Int) := by omega
                have hk1 : (k : Int) < (ds.length : Int) := by omega
                have hk2 : (k : Int) < (os.length : Int) := by omega
                have hk3 : (k : Int) < (q : Int) := by omega
                clear d0
                generalize ds[k]?.getD 0 = a at *
                generalize os[q]?.getD 0 = u at *
                generalize os[k]?.getD 0 = v at *
                have hw1 : IntKind.i64.wrap (y + 1) = y + 1 := IntWalk.i64_in _ (by omega)
                by_cases huv : u = v
                · as_aux_lemma =>
                  subst huv
                  have g1 := hp1 rfl
                  have g2 := hp2 (by omega)
                  have hb : (u == u) = true := by simp
                  have t1 : ¬ a < y := by omega
                  have t2 : ¬ y + 1 < a := by omega
                  have t3 : ¬ u < u := by omega
                  have hd1 : decide (a < y) = false := decide_eq_false t1
                  have hd2 : decide (y + 1 < a) = false := decide_eq_false t2
                  have hd3 : decide (u < u) = false := decide_eq_false t3
                  have hp3 : (a < y) = False := by simp; omega
                  have hp4 : (y + 1 < a) = False := by simp; omega
                  clear hp1 hp2
                  go_wp2
                  go_quiet (fail)
                  go_wp2
                  go_roundw
                  case rel => exact ⟨k + 1, by omega, by go_num, by obtain ⟨m, e⟩ := HX.out; exact ⟨m + nq, by rw [e, World.drewN_drewN]⟩⟩
                  case measure => simp [intOf]; omega
                · have hb : (u == v) = false := by rw [beq_eq_false_iff_ne]; exact huv
                  clear hp1
                  by_cases hlv : v < u
                  · as_aux_lemma =>
                    have g2 := hp2 (by omega)
                    have t2 : ¬ y + 1 < a := by omega
                    have hd2 : decide (y + 1 < a) = false := decide_eq_false t2
                    clear hp2
                    go_wp2
                    go_quiet (fail)
                    go_wp2
                    go_roundw
                    case rel => exact ⟨k + 1, by omega, by go_num, by obtain ⟨m, e⟩ := HX.out; exact ⟨m + nq, by rw [e, World.drewN_drewN]⟩⟩
                    case measure => simp [intOf]; omega
                  · as_aux_lemma =>
                    have hd2 : decide (v < u) = false := decide_eq_false hlv
                    have hp3 : (v < u) = False := by simp; omega
                    clear hp2
                    go_wp2
                    go_quiet (fail)
                    go_wp2
                    go_roundw
                    case rel => exact ⟨k + 1, by omega, by go_num, by obtain ⟨m, e⟩ := HX.out; exact ⟨m + nq, by rw [e, World.drewN_drewN]⟩⟩
                    case measure => simp [intOf]; omega
              · obtain rfl : k = q := by omega
                go_wp2
                go_roundw
                case rel => exact ⟨k + 1, by omega, by rw [HZ.out]; rfl, by go_num, HX⟩
                case measure => simp [intOf]; omega
        · obtain rfl : q = ds.length := by omega
          have p6r : Below w6.heap.size w6 wr := by obtain ⟨m, e⟩ := HW.out; rw [e]; exact below_dn (Below.refl _ _) _
          have hBr := hid (hB6.out.keep p6r)
          obtain ⟨c0, c1, c2, pr⟩ := hBr.out
          clear c0 c2 HW HPr HO6
          go_wp2_with fail
          refine (HDv.out _ _ _ pr (HI6.out.below p6r)).mono ?_
          rintro e w7 ⟨q7, rfl⟩
          have hI7 := hid ((HI6.out.below p6r).below (q7.alloc q7.size (.cells #[.int .i64 d1, .int .i64 d2] 39)))
          have hB7 := hid (hBr.out.keep (q7.alloc q7.size (.cells #[.int .i64 d1, .int .i64 d2] 39)))
          have a0 : (w7.alloc (.cells #[.int .i64 d1, .int .i64 d2] 39)).cell? ⟨w7.heap.size, 0, none⟩ = some (.int .i64 d1) := by go_simp
          have a1' : (w7.alloc (.cells #[.int .i64 d1, .int .i64 d2] 39)).cell? ⟨w7.heap.size, 1, none⟩ = some (.int .i64 d2) := by go_simp
          clear q7 p6r hBr hB6 HI6 HDv pr c1
          obtain ⟨c0, c1, c2, p7⟩ := hB7.out
          clear c0 c2
          generalize zeroTo ds ds.length = z at *
          have hcase : (hv = false ∧ K = 2 ∧ z = true) ∨ (hv = true ∧ (K == 2) = false) ∨ (hv = true ∧ K = 2 ∧ z = false) := by
            have := HHas.out
            by_cases hK : K = 2
            · subst hK
              cases z <;> simp at this <;> subst this <;> simp
            · have hK2 : (K == 2) = false := by rw [beq_eq_false_iff_ne]; exact hK
              rw [decide_eq_false hK] at this
              simp at this
              exact .inr (.inl ⟨this, hK2⟩)
          clear HHas
          rcases hcase with ⟨rfl, hK0, rfl⟩ | ⟨rfl, hK⟩ | ⟨rfl, hK0, rfl⟩
          · as_aux_lemma =>
            clear HCk HCt a0 a1' p7
            have hK : (K == 2) = true := by rw [hK0]; rfl
            clear hK0
            obtain ⟨w8, hw8⟩ : ∃ w8, w7.alloc (.cells #[.int .i64 d1, .int .i64 d2] 39) = w8 := ⟨_, rfl⟩
            rw [hw8] at hB7 hI7
            have hB8 := hB7
            have hI8 := hI7
            clear hB7 hI7 c1
            obtain ⟨c0, c1, c2, p8⟩ := hB8.out
            go_wp2
            go_loopw [20, 21, 22] (fun sm v i wr => ∃ k : Nat, k ≤ ss.length ∧ i = .int .i64 (k : Int) ∧ sm = .int .i64 (sumL (partTo ds ss k)) ∧ wr.ownsRow w8.heap.size 3 1 v (partTo ds ss k).length ((partTo ds ss k).map (Value.int .i64)) ∧ Below w8.heap.size w8 wr) (fun _ _ i _ => ss.length - (intOf i).toNat)
            case atStart => exact ⟨0, Nat.zero_le _, rfl, rfl, ⟨rfl, .inl ⟨rfl, rfl⟩⟩, Below.refl _ _⟩
            case round =>
              obtain ⟨k, hk, rfl, rfl, hown, hB⟩ := hrel
              have hBk := hid (hB8.out.keep hB)
              clear c0 c1 c2 p8
              obtain ⟨c0, c1, c2, pk⟩ := hBk.out
              by_cases hlt : k < ss.length
              · rcases (HSs.out.below pk).at_ with e | ⟨bs, so, rfl, hcs⟩
                · rw [e] at hlt; simp at hlt
                have d0 := hcs k hlt
                have HT := hid (show partTo ds ss (k + 1) = if 0 ≤ ss[k]?.getD 0 ∧ ss[k]?.getD 0 < (ds.length : Int) then partTo ds ss k ++ [ds[(ss[k]?.getD 0).toNat]?.getD 0] else partTo ds ss k from rfl)
                have hps := HPs.out k
                have hpl := HPl.out k
                clear hcs c0 c1
                generalize ss[k]?.getD 0 = s at *
                have hk0 : (0 : Int) ≤ (k : Int) := by omega
                have hk1 : (k : Int) < (ss.length : Int) := by omega
                by_cases hs0 : 0 ≤ s
                · by_cases hs1 : s < (ds.length : Int)
                  · rw [if_pos ⟨hs0, hs1⟩] at HT
                    obtain ⟨q, rfl⟩ := Int.eq_ofNat_of_zero_le hs0
                    rw [Int.toNat_natCast] at HT
                    rcases (hI8.out.below hB).at_ with e | ⟨b5, f5, rfl, hc5⟩
                    · rw [e, List.length_nil] at hs1; omega
                    have d2 := hc5 q (by omega)
                    have hxv := HAv.out _ (getD_mem ds q (by omega))
                    clear hc5
                    generalize hx : ds[q]?.getD 0 = x at *
                    have HX := hid hx
                    clear hx
                    have hw : IntKind.i64.wrap (sumL (partTo ds ss k) + x) = sumL (partTo ds ss k) + x := IntWalk.i64_in _ (by omega)
                    have HPT := hid hps.2.2
                    obtain ⟨hps1, hps2, _⟩ := hps
                    go_wp2_with (at_builtin; refine wpList_append_own _ rfl _ _ 22 rfl w8.heap.size 3 i0 (.int .i64 0) 1 8 Try.underlying22 hi hz0 hz1 hz2 rfl (by decide) _ _ _ rfl (hown.alloc _) ⟨wr.heap.size, 0, none⟩ 1 1 [.int .i64 x] rfl rfl (cell_one_new _ _ _) (by simp [Value.oneCell']) (by unfold maxLen; omega) (by omega) (by have := hB.size; try simp at this ⊢; omega) ?_)
                    intro v' w9 hown2 hgrow _
                    have p9 := (hB.alloc hB.size _).grown hgrow (by have := hB.size; try simp at this ⊢; omega) (fun q hq => by have := (hown.lt q hq).1; omega)
                    rcases (hI8.out.below p9).at_ with e | ⟨b6, f6, he, hc6⟩
                    · rw [e, List.length_nil] at hs1; omega
                    cases he
                    have d3 := hc6 q (by omega)
                    rw [HX.out] at d3
                    clear hgrow hown hc6 d2 d0
                    go_wp2
                    go_roundw
                    case rel => exact ⟨k + 1, by omega, by go_num, by rw [HT.out, sumL_app]; simp [sumL], by rw [HT.out]; simpa using hown2, p9⟩
                    case measure => simp [intOf]; omega
                  · rw [if_neg (fun h => hs1 h.2)] at HT
                    go_wp2
                    go_roundw
                    case rel => exact ⟨k + 1, by omega, by go_num, by rw [HT.out], by rw [HT.out]; exact hown, hB⟩
                    case measure => simp [intOf]; omega
                · rw [if_neg (fun h => hs0 h.1)] at HT
                  go_wp2
                  go_roundw
                  case rel => exact ⟨k + 1, by omega, by go_num, by rw [HT.out], by rw [HT.out]; exact hown, hB⟩
                  case measure => simp [intOf]; omega
              · obtain rfl : k = ss.length := by omega
                obtain ⟨hps1, hps2, hps3⟩ := HPs.out ss.length
                have hpl := HPl.out ss.length
                have HP3 := hid hps3
                obtain ⟨A, c, hvv, hI⟩ := Own.ints (w := wr) (base := w8.heap.size) (v := u21) (xs := partTo ds ss ss.length) hown (by omega) (small_i64 hps3 (by omega) (by omega))
                subst hvv
                have HFs := hid (HFin.out _ rfl)
                clear hps3 hown c0
                generalize sumL (partTo ds ss ss.length) = S at *
                generalize partTo ds ss ss.length = pt at *
                by_cases hS : 1000 < S
                · go_wp2
                  go_ret
                  exact ⟨pk, rfl⟩
                · have HSo := hid (fun w' hb => HSome.out w' hb S)
                  rcases Bool.eq_false_or_eq_true (smE os ss S K) with hE | hE
                  · have hL := HFs.out hE
                    rw [hE, hL, show err true = 0 from rfl] at HSo
                    clear hL hE HFs
                    go_wp2_with fail
                    refine (HSo.out _ pk).mono ?_
                    rintro e w9 ⟨q9, A9, a9, rfl, o9⟩
                    obtain ⟨_, _, hv9, i9⟩ := o9.ints (by omega) (small_i64 HP3.out (by omega) (by omega))
                    cases hv9
                    go_wp2_with fail
                    refine (same_self _ _ _ _ _ _ i9 (hI.below q9)).mono ?_
                    rintro e w10 ⟨q10, rfl⟩
                    have p9 := pk.trans (q9.mono pk.size)
                    go_wp2
                    go_ret
                    exact ⟨p9.trans (q10.mono p9.size), rfl⟩
                  · rw [hE, show err false = 1 from rfl] at HSo
                    clear hE HFs
                    go_wp2_with fail
                    refine (HSo.out _ pk).mono ?_
                    rintro e w9 ⟨q9, A9, a9, rfl, o9⟩
                    go_wp2
                    go_ret
                    exact ⟨pk.trans (q9.mono pk.size), rfl⟩
          · as_aux_lemma =>
            have hck := HCt.out rfl
            subst hck
            clear HCt
            go_wp2_with fail
            refine (HCk.out _ _ _ p7 hI7.out).mono ?_
            rintro e w8 ⟨q8, rfl⟩
            have hB8 := hid (hB7.out.keep q8)
            have hI8 := hid (hI7.out.below q8)
            clear HCk a0 a1' p7 q8 hB7 hI7 c1
            obtain ⟨c0, c1, c2, p8⟩ := hB8.out
            go_wp2
            go_loopw [20, 21, 22] (fun sm v i wr => ∃ k : Nat, k ≤ ss.length ∧ i = .int .i64 (k : Int) ∧ sm = .int .i64 (sumL (partTo ds ss k)) ∧ wr.ownsRow w8.heap.size 3 1 v (partTo ds ss k).length ((partTo ds ss k).map (Value.int .i64)) ∧ Below w8.heap.size w8 wr) (fun _ _ i _ => ss.length - (intOf i).toNat)
            case atStart => exact ⟨0, Nat.zero_le _, rfl, rfl, ⟨rfl, .inl ⟨rfl, rfl⟩⟩, Below.refl _ _⟩
            case round =>
              obtain ⟨k, hk, rfl, rfl, hown, hB⟩ := hrel
              have hBk := hid (hB8.out.keep hB)
              clear c0 c1 c2 p8
              obtain ⟨c0, c1, c2, pk⟩ := hBk.out
              by_cases hlt : k < ss.length
              · rcases (HSs.out.below pk).at_ with e | ⟨bs, so, rfl, hcs⟩
                · rw [e] at hlt; simp at hlt
                have d0 := hcs k hlt
                have HT := hid (show partTo ds ss (k + 1) = if 0 ≤ ss[k]?.getD 0 ∧ ss[k]?.getD 0 < (ds.length : Int) then partTo ds ss k ++ [ds[(ss[k]?.getD 0).toNat]?.getD 0] else partTo ds ss k from rfl)
                have hps := HPs.out k
                have hpl := HPl.out k
                clear hcs c0 c1
                generalize ss[k]?.getD 0 = s at *
                have hk0 : (0 : Int) ≤ (k : Int) := by omega
                have hk1 : (k : Int) < (ss.length : Int) := by omega
                by_cases hs0 : 0 ≤ s
                · by_cases hs1 : s < (ds.length : Int)
                  · rw [if_pos ⟨hs0, hs1⟩] at HT
                    obtain ⟨q, rfl⟩ := Int.eq_ofNat_of_zero_le hs0
                    rw [Int.toNat_natCast] at HT
                    rcases (hI8.out.below hB).at_ with e | ⟨b5, f5, rfl, hc5⟩
                    · rw [e, List.length_nil] at hs1; omega
                    have d2 := hc5 q (by omega)
                    have hxv := HAv.out _ (getD_mem ds q (by omega))
                    clear hc5
                    generalize hx : ds[q]?.getD 0 = x at *
                    have HX := hid hx
                    clear hx
                    have hw : IntKind.i64.wrap (sumL (partTo ds ss k) + x) = sumL (partTo ds ss k) + x := IntWalk.i64_in _ (by omega)
                    have HPT := hid hps.2.2
                    obtain ⟨hps1, hps2, _⟩ := hps
                    go_wp2_with (at_builtin; refine wpList_append_own _ rfl _ _ 22 rfl w8.heap.size 3 i0 (.int .i64 0) 1 8 Try.underlying22 hi hz0 hz1 hz2 rfl (by decide) _ _ _ rfl (hown.alloc _) ⟨wr.heap.size, 0, none⟩ 1 1 [.int .i64 x] rfl rfl (cell_one_new _ _ _) (by simp [Value.oneCell']) (by unfold maxLen; omega) (by omega) (by have := hB.size; try simp at this ⊢; omega) ?_)
                    intro v' w9 hown2 hgrow _
                    have p9 := (hB.alloc hB.size _).grown hgrow (by have := hB.size; try simp at this ⊢; omega) (fun q hq => by have := (hown.lt q hq).1; omega)
                    rcases (hI8.out.below p9).at_ with e | ⟨b6, f6, he, hc6⟩
                    · rw [e, List.length_nil] at hs1; omega
                    cases he
                    have d3 := hc6 q (by omega)
                    rw [HX.out] at d3
                    clear hgrow hown hc6 d2 d0
                    go_wp2
                    go_roundw
                    case rel => exact ⟨k + 1, by omega, by go_num, by rw [HT.out, sumL_app]; simp [sumL], by rw [HT.out]; simpa using hown2, p9⟩
                    case measure => simp [intOf]; omega
                  · rw [if_neg (fun h => hs1 h.2)] at HT
                    go_wp2
                    go_roundw
                    case rel => exact ⟨k + 1, by omega, by go_num, by rw [HT.out], by rw [HT.out]; exact hown, hB⟩
                    case measure => simp [intOf]; omega
                · rw [if_neg (fun h => hs0 h.1)] at HT
                  go_wp2
                  go_roundw
                  case rel => exact ⟨k + 1, by omega, by go_num, by rw [HT.out], by rw [HT.out]; exact hown, hB⟩
                  case measure => simp [intOf]; omega
              · obtain rfl : k = ss.length := by omega
                obtain ⟨hps1, hps2, hps3⟩ := HPs.out ss.length
                have hpl := HPl.out ss.length
                have HP3 := hid hps3
                obtain ⟨A, c, hvv, hI⟩ := Own.ints (w := wr) (base := w8.heap.size) (v := u21) (xs := partTo ds ss ss.length) hown (by omega) (small_i64 hps3 (by omega) (by omega))
                subst hvv
                have HFs := hid (HFin.out _ rfl)
                clear hps3 hown c0
                generalize sumL (partTo ds ss ss.length) = S at *
                generalize partTo ds ss ss.length = pt at *
                by_cases hS : 1000 < S
                · go_wp2
                  go_ret
                  exact ⟨pk, rfl⟩
                · have HSo := hid (fun w' hb => HSome.out w' hb S)
                  rcases Bool.eq_false_or_eq_true (smE os ss S K) with hE | hE
                  · have hL := HFs.out hE
                    rw [hE, hL, show err true = 0 from rfl] at HSo
                    clear hL hE HFs
                    go_wp2_with fail
                    refine (HSo.out _ pk).mono ?_
                    rintro e w9 ⟨q9, A9, a9, rfl, o9⟩
                    obtain ⟨_, _, hv9, i9⟩ := o9.ints (by omega) (small_i64 HP3.out (by omega) (by omega))
                    cases hv9
                    go_wp2_with fail
                    refine (same_self _ _ _ _ _ _ i9 (hI.below q9)).mono ?_
                    rintro e w10 ⟨q10, rfl⟩
                    have p9 := pk.trans (q9.mono pk.size)
                    go_wp2
                    go_ret
                    exact ⟨p9.trans (q10.mono p9.size), rfl⟩
                  · rw [hE, show err false = 1 from rfl] at HSo
                    clear hE HFs
                    go_wp2_with fail
                    refine (HSo.out _ pk).mono ?_
                    rintro e w9 ⟨q9, A9, a9, rfl, o9⟩
                    go_wp2
                    go_ret
                    exact ⟨pk.trans (q9.mono pk.size), rfl⟩
          · as_aux_lemma =>
            have hck := HCt.out rfl
            subst hck
            clear HCt
            have hK : (K == 2) = true := by rw [hK0]; rfl
            clear hK0
            go_wp2_with fail
            refine (HCk.out _ _ _ p7 hI7.out).mono ?_
            rintro e w8 ⟨q8, rfl⟩
            have hB8 := hid (hB7.out.keep q8)
            have hI8 := hid (hI7.out.below q8)
            clear HCk a0 a1' p7 q8 hB7 hI7 c1
            obtain ⟨c0, c1, c2, p8⟩ := hB8.out
            go_wp2
            go_loopw [20, 21, 22] (fun sm v i wr => ∃ k : Nat, k ≤ ss.length ∧ i = .int .i64 (k : Int) ∧ sm = .int .i64 (sumL (partTo ds ss k)) ∧ wr.ownsRow w8.heap.size 3 1 v (partTo ds ss k).length ((partTo ds ss k).map (Value.int .i64)) ∧ Below w8.heap.size w8 wr) (fun _ _ i _ => ss.length - (intOf i).toNat)
            case atStart => exact ⟨0, Nat.zero_le _, rfl, rfl, ⟨rfl, .inl ⟨rfl, rfl⟩⟩, Below.refl _ _⟩
            case round =>
              obtain ⟨k, hk, rfl, rfl, hown, hB⟩ := hrel
              have hBk := hid (hB8.out.keep hB)
              clear c0 c1 c2 p8
              obtain ⟨c0, c1, c2, pk⟩ := hBk.out
              by_cases hlt : k < ss.length
              · rcases (HSs.out.below pk).at_ with e | ⟨bs, so, rfl, hcs⟩
                · rw [e] at hlt; simp at hlt
                have d0 := hcs k hlt
                have HT := hid (show partTo ds ss (k + 1) = if 0 ≤ ss[k]?.getD 0 ∧ ss[k]?.getD 0 < (ds.length : Int) then partTo ds ss k ++ [ds[(ss[k]?.getD 0).toNat]?.getD 0] else partTo ds ss k from rfl)
                have hps := HPs.out k
                have hpl := HPl.out k
                clear hcs c0 c1
                generalize ss[k]?.getD 0 = s at *
                have hk0 : (0 : Int) ≤ (k : Int) := by omega
                have hk1 : (k : Int) < (ss.length : Int) := by omega
                by_cases hs0 : 0 ≤ s
                · by_cases hs1 : s < (ds.length : Int)
                  · rw [if_pos ⟨hs0, hs1⟩] at HT
                    obtain ⟨q, rfl⟩ := Int.eq_ofNat_of_zero_le hs0
                    rw [Int.toNat_natCast] at HT
                    rcases (hI8.out.below hB).at_ with e | ⟨b5, f5, rfl, hc5⟩
                    · rw [e, List.length_nil] at hs1; omega
                    have d2 := hc5 q (by omega)
                    have hxv := HAv.out _ (getD_mem ds q (by omega))
                    clear hc5
                    generalize hx : ds[q]?.getD 0 = x at *
                    have HX := hid hx
                    clear hx
                    have hw : IntKind.i64.wrap (sumL (partTo ds ss k) + x) = sumL (partTo ds ss k) + x := IntWalk.i64_in _ (by omega)
                    have HPT := hid hps.2.2
                    obtain ⟨hps1, hps2, _⟩ := hps
                    go_wp2_with (at_builtin; refine wpList_append_own _ rfl _ _ 22 rfl w8.heap.size 3 i0 (.int .i64 0) 1 8 Try.underlying22 hi hz0 hz1 hz2 rfl (by decide) _ _ _ rfl (hown.alloc _) ⟨wr.heap.size, 0, none⟩ 1 1 [.int .i64 x] rfl rfl (cell_one_new _ _ _) (by simp [Value.oneCell']) (by unfold maxLen; omega) (by omega) (by have := hB.size; try simp at this ⊢; omega) ?_)
                    intro v' w9 hown2 hgrow _
                    have p9 := (hB.alloc hB.size _).grown hgrow (by have := hB.size; try simp at this ⊢; omega) (fun q hq => by have := (hown.lt q hq).1; omega)
                    rcases (hI8.out.below p9).at_ with e | ⟨b6, f6, he, hc6⟩
                    · rw [e, List.length_nil] at hs1; omega
                    cases he
                    have d3 := hc6 q (by omega)
                    rw [HX.out] at d3
                    clear hgrow hown hc6 d2 d0
                    go_wp2
                    go_roundw
                    case rel => exact ⟨k + 1, by omega, by go_num, by rw [HT.out, sumL_app]; simp [sumL], by rw [HT.out]; simpa using hown2, p9⟩
                    case measure => simp [intOf]; omega
                  · rw [if_neg (fun h => hs1 h.2)] at HT
                    go_wp2
                    go_roundw
                    case rel => exact ⟨k + 1, by omega, by go_num, by rw [HT.out], by rw [HT.out]; exact hown, hB⟩
                    case measure => simp [intOf]; omega
                · rw [if_neg (fun h => hs0 h.1)] at HT
                  go_wp2
                  go_roundw
                  case rel => exact ⟨k + 1, by omega, by go_num, by rw [HT.out], by rw [HT.out]; exact hown, hB⟩
                  case measure => simp [intOf]; omega
              · obtain rfl : k = ss.length := by omega
                obtain ⟨hps1, hps2, hps3⟩ := HPs.out ss.length
                have hpl := HPl.out ss.length
                have HP3 := hid hps3
                obtain ⟨A, c, hvv, hI⟩ := Own.ints (w := wr) (base := w8.heap.size) (v := u21) (xs := partTo ds ss ss.length) hown (by omega) (small_i64 hps3 (by omega) (by omega))
                subst hvv
                have HFs := hid (HFin.out _ rfl)
                clear hps3 hown c0
                generalize sumL (partTo ds ss ss.length) = S at *
                generalize partTo ds ss ss.length = pt at *
                by_cases hS : 1000 < S
                · go_wp2
                  go_ret
                  exact ⟨pk, rfl⟩
                · have HSo := hid (fun w' hb => HSome.out w' hb S)
                  rcases Bool.eq_false_or_eq_true (smE os ss S K) with hE | hE
                  · have hL := HFs.out hE
                    rw [hE, hL, show err true = 0 from rfl] at HSo
                    clear hL hE HFs
                    go_wp2_with fail
                    refine (HSo.out _ pk).mono ?_
                    rintro e w9 ⟨q9, A9, a9, rfl, o9⟩
                    obtain ⟨_, _, hv9, i9⟩ := o9.ints (by omega) (small_i64 HP3.out (by omega) (by omega))
                    cases hv9
                    go_wp2_with fail
                    refine (same_self _ _ _ _ _ _ i9 (hI.below q9)).mono ?_
                    rintro e w10 ⟨q10, rfl⟩
                    have p9 := pk.trans (q9.mono pk.size)
                    go_wp2
                    go_ret
                    exact ⟨p9.trans (q10.mono p9.size), rfl⟩
                  · rw [hE, show err false = 1 from rfl] at HSo
                    clear hE HFs
                    go_wp2_with fail
                    refine (HSo.out _ pk).mono ?_
                    rintro e w9 ⟨q9, A9, a9, rfl, o9⟩
                    go_wp2
                    go_ret
                    exact ⟨pk.trans (q9.mono pk.size), rfl⟩
end Go.Proofs.Ytnjaacmcdkiilaa
