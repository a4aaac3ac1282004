/- The document's Orders: chapter 7. -/
import Derived.Test.YtbffdpcogfmomaaOrdC
import Derived.Deep.RegionHeld3
set_option linter.unusedVariables false
namespace Go.Proofs.Ytbffdpcogfmomaa
open Go.RowKit

/-- What Orders answers. -/
def OrdQ (n : Nat) (w : World) (en : Ending) (w' : World) : Prop := Below w.heap.size w w' ∧ ∃ A c, en = .returned (.slice A (ordz n).length c) ∧ OrdT w' w.heap.size (.slice A (ordz n).length c) (ordz n)
theorem zblk_new (X : World) (o : Obj) (B : Nat) (h : X.heap.size = B) : (X.alloc o).heap[B]? = some o := by rw [← h]; exact heap_alloc_new X o
theorem zblk_alloc {X : World} {B : Nat} {u : Obj} (o : Obj) (h : X.heap[B]? = some u) : (X.alloc o).heap[B]? = some u := zblk_keep h ((Below.refl _ _).alloc (Nat.le_refl _) o)
theorem zblk_drew {X : World} {B : Nat} {u : Obj} (h : X.heap[B]? = some u) : X.drew.heap[B]? = some u := h
theorem zblk_grown {X W : World} {r : Option Nat} {B : Nat} {u : Obj} (hg : X.grownBy W r) (hn : some B ≠ r) (h : X.heap[B]? = some u) : W.heap[B]? = some u := (hg.block B (zlt_block h) hn).trans h
theorem zown_empty {X : World} {B base : Nat} (h : X.heap[B]? = some (.cells #[] 3 (0, 0))) (hb : base ≤ B) : Own X base (.slice (some ⟨B, 0, none⟩) 0 0) [] :=
  ⟨rfl, .inr ⟨B, 0, #[], rfl, hb, h, Nat.le_refl _, by decide, rfl, rfl⟩⟩
theorem zsrc_one {X : World} {B : Nat} {x : Int} (h : X.heap[B]? = some (.cells #[.int .i64 x] 3 (0, 0))) : SrcZ X (some ⟨B, 0, none⟩) [x] := by
  refine .inr ⟨_, rfl, fun j u hu => ?_⟩
  rw [zadd_none, Nat.zero_add]
  match j, hu with
  | 0, hu => simp at hu; subst hu; simp [World.cell?, h]
  | j + 1, hu => simp at hu
theorem zown_ne {X : World} {B base : Nat} {v : Value} {xs : List Int} {u : Value} {ty : TypeId} (h : X.heap[B]? = some (.cells #[u] ty (0, 0))) (ho : Own X base v xs) (hB : ∀ q, v.ownBlock = some q → q ≠ B) : some B ≠ v.ownBlock := fun e => hB B e.symm rfl
theorem zown_alloc {X : World} {base : Nat} {v : Value} {xs : List Int} (h : Own X base v xs) (o : Obj) : Own (X.alloc o) base v xs := Own.below h ((Below.refl _ _).alloc (Nat.le_refl _) o)
theorem zown_drew {X : World} {base : Nat} {v : Value} {xs : List Int} (h : Own X base v xs) : Own X.drew base v xs := Own.below h (Below.drew (Below.refl _ _))
theorem zown_cell {X : World} {base : Nat} {v : Value} {xs : List Int} (h : Own X base v xs) : v.oneCell' = true := by
  rcases h.2 with ⟨rfl, _⟩ | ⟨g, c, cur, rfl, _⟩ <;> rfl
theorem zown_some {X : World} {base m : Nat} {v : Value} {xs : List Int} (h : Own X base v xs) (hl : xs.length = m) (hm : 0 < m) : ∃ g c, v = .slice (some ⟨g, 0, none⟩) m c ∧ base ≤ g := by
  subst hl
  rcases h.2 with ⟨_, h2⟩ | ⟨g, c, cur, hv, hg, _⟩
  · omega
  · exact ⟨g, c, hv, hg⟩
theorem zown_ge {X : World} {base : Nat} {v : Value} {xs : List Int} (h : Own X base v xs) : ∀ q, v.ownBlock = some q → base ≤ q := fun q hq => (World.ownsRow.lt h q hq).1
theorem zemp_ge {B base : Nat} (hb : base ≤ B) : ∀ q, (Value.slice (some ⟨B, 0, none⟩) 0 0).ownBlock = some q → base ≤ q := by
  intro q hq; simp [Value.ownBlock] at hq; omega
theorem zemp_ne {B B' : Nat} (hb : B ≠ B') : some B ≠ (Value.slice (some ⟨B', 0, none⟩) 0 0).ownBlock := by
  simp [Value.ownBlock]; omega
theorem zcell_new {X : World} {B : Nat} {v : Value} {ty : TypeId} (h : X.heap[B]? = some (.cells #[v] ty (0, 0))) : ∀ j u, [v][j]? = some u → X.cell? ((⟨B, 0, none⟩ : Addr).add j) = some u := by
  intro j u hu
  rw [zadd_none, Nat.zero_add]
  match j, hu with
  | 0, hu => simp at hu; subst hu; simp [World.cell?, h]
  | j + 1, hu => simp at hu
theorem ordT_one (w : World) : OrdT (w.alloc (.cells #[.slice none 0 0] 23)) w.heap.size (.slice (some ⟨w.heap.size, 0, none⟩) 1 1) [[]] := by
  refine ⟨fun _ => none, fun _ => 0, [.slice none 0 0], ⟨rfl, .inr ⟨w.heap.size, 1, #[.slice none 0 0], rfl, Nat.le_refl _, heap_alloc_new w _, Nat.le_refl _, by decide, rfl, rfl⟩⟩, fun i hi => ?_, fun i hi => ?_, fun i j hij hj => by simp at hj; omega⟩
  · have : i = 0 := by simp at hi; omega
    subst this; rfl
  · have : i = 0 := by simp at hi; omega
    subst this
    exact ⟨rfl, .inl ⟨rfl, rfl⟩⟩
set_option maxRecDepth 100000 in
set_option maxHeartbeats 8000000 in
theorem rOrders_any (n : Nat) (w : World) (hn : n ≤ 7) : Calls Try.prog 92 #[.int .i64 (n : Int)] w (OrdQ n w) := by
  obtain ⟨i0, hinf, hz0, hz1, hz2⟩ := info_parts int_info
  obtain ⟨i2, hinf2, hy0, hy1, hy2⟩ := info_parts zints_info
  have HO0 := hid (ordT_one w)
  have HB0 := hid ((Below.refl w.heap.size w).alloc (Nat.le_refl _) (.cells #[.slice none 0 0] 23))
  go_enter Try.func92, Try.ntmps92
  go_wp2_with fail
  go_loopw [3, 4] (fun v s wr => ∃ (k : Nat), k ≤ n ∧ s = .int .i64 (k : Int) ∧ Hid (OrdT wr w.heap.size v (ordz k)) ∧ Hid (Below w.heap.size w wr)) (fun _ s _ => n - (intOf s).toNat)
  case atStart => exact ⟨0, Nat.zero_le _, rfl, HO0, HB0⟩
  case round =>
    obtain ⟨k, hk, rfl, HO, HB⟩ := hrel
    generalize wr = w1 at *
    clear HO0 HB0
    obtain ⟨Ao, co, rfl⟩ := HO.out.val
    have hrl := ordz_len k
    have hcard := ordz_card k
    have hfz := fz_le k (by omega)
    have hfp := fz_pos k
    have hfz2 : fz k * (k + 1) = fz (k + 1) := rfl
    have hfz3 : k < n → fz (k + 1) ≤ 5040 := fun h => fz_le (k + 1) (by omega)
    obtain ⟨os, hos⟩ : ∃ os, ordz k = os := ⟨_, rfl⟩
    have HOS := hid hos
    rw [hos] at HO hrl hcard
    rw [hos]
    obtain ⟨L, hL⟩ : ∃ L, os.length = L := ⟨_, rfl⟩
    have HL := hid hL
    rw [hL] at hcard
    rw [hL]
    have hL1 : 1 ≤ L := by omega
    have hL2 : L ≤ 5040 := by omega
    have HT5 := hid (fun (h : k < n) => (show L * (k + 1) ≤ 5040 by rw [hcard, hfz2]; exact hfz3 h))
    have HRl := hid hrl
    clear hos hL hrl hcard hfz hfp hfz2 hfz3
    by_cases hlt : k < n
    · have hT5 := HT5.out hlt
      have hT6 := hid hT5
      have hk7 : k ≤ 6 := by omega
      clear hT5 HT5
      have HBb := hid HB
      go_wp2_with fail
      go_loopw [5, 6] (fun v5 s6 wq => ∃ (i : Nat), i ≤ L ∧ s6 = .int .i64 (i : Int) ∧ Hid (OrdT wq w1.heap.size v5 (inzPre os k i 0)) ∧ Hid (Below w1.heap.size w1 wq)) (fun _ s6 _ => L - (intOf s6).toNat)
      case atStart => exact ⟨0, Nat.zero_le _, rfl, by rw [inzPre_zero]; exact OrdT.nil _ _, Below.refl _ _⟩
      case round =>
        obtain ⟨i, hi, rfl, HN, HBq⟩ := hrel
        generalize wr = w2 at *
        by_cases hil : i < L
        · have hrow := HRl.out (rZ os i) (rZ_mem (by rw [HL.out]; exact hil))
          have HRow := hid hrow
          have HOq := hid (HO.out.below HBq.out)
          have hwq := HBq.out.size
          clear hrow
          go_wp2_with fail
          go_loopw [5, 7] (fun v5 s7 ws => ∃ (a : Nat), a ≤ k + 1 ∧ s7 = .int .i64 (a : Int) ∧ Hid (OrdT ws w1.heap.size v5 (inzPre os k i a)) ∧ Hid (Below w1.heap.size w1 ws)) (fun _ s7 _ => (k + 1) - (intOf s7).toNat)
          case atStart => exact ⟨0, Nat.zero_le _, rfl, HN, HBq⟩
          case round =>
            obtain ⟨a, ha, rfl, HN2, HBs⟩ := hrel
            clear HN HOq hwq HBq
            obtain ⟨bo, co', Ai, ci, hv, c0, hRow⟩ := HO.out.row i (by rw [HL.out]; exact hil)
            rw [HL.out] at hv
            simp only [Value.slice.injEq, true_and] at hv
            obtain ⟨rfl, rfl⟩ := hv
            rw [HRow.out] at c0 hRow
            have q1 : (i : Int) < (L : Int) := by omega
            have hsz := HBs.out.size
            have C0 := (HBs.out.cell (cell_lt c0)).trans c0
            have HC0 := hid c0
            clear c0
            by_cases hak : a ≤ k
            · have hsz := HBs.out.size
              obtain ⟨A1, c1, A2, c2, hr1, hr2, hs1, hs2⟩ := cut_row hRow a hak
              obtain ⟨An, Cn, vals, n1, n2, n3, n4⟩ := HN2.out.out
              have HPush := hid (fun (w8 W9 : World) (g c9 : Nat) (v9 : Value) (r : List Int) hb hr hg ho hgr => OrdT.push (w := wr) (w8 := w8) (w9 := W9) (g := g) (c := c9) (v' := v9) (r := r) n1 n2 n3 n4 hb hr hg hsz ho hgr)
              have hTl : (inzPre os (k : Int) i a).length ≤ 5040 := Nat.le_trans (inzPre_len os k k (fun o ho => HRl.out o ho) i a (by rw [HL.out]; exact hil) (by omega)) (by rw [HL.out]; exact hT6.out)
              have HPre := hid (inzPre_a os (k : Int) i a)
              obtain ⟨T, hT⟩ : ∃ T, inzPre os (k : Int) i a = T := ⟨_, rfl⟩
              rw [hT] at n1 hTl HPre HPush
              obtain ⟨row, hrw⟩ : ∃ row, rZ os i = row := ⟨_, rfl⟩
              rw [hrw] at HRow HPre hs1 hs2
              have HN1 := hid n1
              obtain ⟨TL, hTL⟩ : ∃ TL, T.length = TL := ⟨_, rfl⟩
              rw [hTL] at HN1 hTl HPush
              have HS1 := hid (fun (W : World) (hb : Below w1.heap.size w1 W) => hs1.below hb)
              have HS2 := hid (fun (W : World) (hb : Below w1.heap.size w1 W) => hs2.below hb)
              have HLt := hid (show (row.take a).length = a by rw [List.length_take, HRow.out]; omega)
              have HLd := hid (show (row.drop a).length = k - a by rw [List.length_drop, HRow.out])
              have HIn := hid (show row.take a ++ [(k : Int)] ++ row.drop a = inz row k a from rfl)
              have HIl := hid (show (inz row k a).length = k + 1 by rw [inz_len, HRow.out])
              have HKp := hid (fun (W : World) (hb : Below w1.heap.size w1 W) => (show W.cell? ⟨bo, i, none⟩ = some (.slice Ai k ci) ∧ Below w1.heap.size w1 W from ⟨(hb.cell (cell_lt HC0.out)).trans HC0.out, hb⟩))
              have HBl := hid (fun (W : World) (h : W.cell? ⟨bo, i, none⟩ = some (.slice Ai k ci) ∧ Below w1.heap.size w1 W) => h.2)
              have HSz := hid (fun (W : World) (h : W.cell? ⟨bo, i, none⟩ = some (.slice Ai k ci) ∧ Below w1.heap.size w1 W) => h.2.size)
              have hr : Below wr.heap.size wr wr := Below.refl _ _
              have hr1 : Below w1.heap.size w1 wr := HBs.out
              have q3 : (a : Int) ≤ (k : Int) := by omega
              have HTk := hid (show (row.take a).length + 1 + (k - a) ≤ 1000 by rw [HLt.out]; omega)
              clear n1 n2 n3 n4 hs1 hs2 hT hrw hTL hRow
              go_wp2_with fail
              go_region_held3 (fun w' => w'.cell? ⟨bo, i, none⟩ = some (.slice Ai k ci) ∧ Below w1.heap.size w1 w')
                ((refine HKp.out _ ?_; repeat (first | exact hr1 | assumption | apply Below.drew | (refine Below.alloc ?_ (by first | exact HSz.out _ (by assumption) | omega | (simp; done) | (simp; omega)) _) | exact HBl.out _ (by assumption))))
                (first
                  | (refine step_append_own (by rfl) _ _ 22 (by rfl) w1.heap.size 23 i2 (.slice none 0 0) 1 24 Try.underlying22 hinf2 hy0 hy1 hy2 rfl (by decide) _ TL vals (by rfl) (own_below HN1.out (by repeat (first | exact p8 | apply Below.drew | (refine Below.alloc ?_ (by first | exact Below.size (by assumption) | omega | (simp; done) | (simp; omega)) _)))) _ 1 1 [.slice (some ⟨g8, 0, none⟩) (k + 1) c8] (by rfl) (by rfl) (zcell_new (by repeat (first | (with_reducible exact zblk_new _ _ _ (by first | rfl | (simp; done))) | (with_reducible refine zblk_alloc _ ?_) | (with_reducible refine zblk_drew ?_)))) (by intro u hu; simp at hu; subst hu; rfl) (by unfold maxLen; omega) (by omega) (Nat.le_trans hsz (by first | omega | (simp; done) | (simp; omega))) ?_; intro v9 w9 hown9 hgrow9; have pp9 : Below w1.heap.size w1 w9 := Below.grown (HBs.out.trans (Below.mono (by repeat (first | exact p8 | apply Below.drew | (refine Below.alloc ?_ (by first | exact Below.size (by assumption) | omega | (simp; done) | (simp; omega)) _))) hsz)) hgrow9 (by first | omega | (simp; done) | (simp; omega)) (fun q hq => (World.ownsRow.lt HN1.out q hq).1))
                  | (refine step_append_srcZ (by rfl) _ _ 23 (by rfl) wr.heap.size i0 Try.underlying23 hinf hz0 hz1 hz2 v7 (row.take a ++ [(k : Int)]) (by rfl) (by repeat (first | (with_reducible exact hown7) | (with_reducible refine zown_alloc ?_ _) | (with_reducible refine zown_drew ?_))) A2 (k - a) c2 (row.drop a) (by rfl) HLd.out (HS2.out _ (HBl.out _ (by assumption))) (by have := HTk.out; simp only [List.length_append, List.length_singleton]; omega) (by first | omega | (simp; done) | (simp; omega)) ?_; intro v8 w8 hown8 hgrow8; have p8 : Below wr.heap.size wr w8 := Below.grown (by repeat (first | exact p7 | apply Below.drew | (refine Below.alloc ?_ (by first | exact Below.size (by assumption) | omega | (simp; done) | (simp; omega)) _))) hgrow8 (by first | omega | (simp; done) | (simp; omega)) (zown_ge hown7); have z8 := p8.size; have y8 := hgrow8.size; have pp8 := HBs.out.trans (p8.mono hsz); rw [HIn.out] at hown8; obtain ⟨g8, c8, rfl, hg8⟩ := zown_some hown8 HIl.out (Nat.succ_pos k))
                  | (refine step_append_srcZ (by rfl) _ _ 23 (by rfl) wr.heap.size i0 Try.underlying23 hinf hz0 hz1 hz2 v6 (row.take a) (by rfl) (by repeat (first | (with_reducible exact hown6) | (with_reducible refine zown_alloc ?_ _) | (with_reducible refine zown_drew ?_))) _ 1 _ [(k : Int)] (by rfl) (by rfl) (zsrc_one (by repeat (first | (with_reducible exact zblk_new _ _ _ (by first | rfl | (simp; done))) | (with_reducible refine zblk_alloc _ ?_) | (with_reducible refine zblk_drew ?_) | (with_reducible refine zblk_grown hgrow6 ?_ ?_) | (exact zemp_ne (by first | omega | (simp; done) | (simp; omega)))))) (by have := HTk.out; omega) (by first | omega | (simp; done) | (simp; omega)) ?_; intro v7 w7 hown7 hgrow7; have p7 : Below wr.heap.size wr w7 := Below.grown (by repeat (first | exact p6 | apply Below.drew | (refine Below.alloc ?_ (by first | exact Below.size (by assumption) | omega | (simp; done) | (simp; omega)) _))) hgrow7 (by first | omega | (simp; done) | (simp; omega)) (zown_ge hown6); have z7 := p7.size; have y7 := hgrow7.size; have pp7 := HBs.out.trans (p7.mono hsz))
                  | (refine step_append_srcZ (by rfl) _ _ 23 (by rfl) wr.heap.size i0 Try.underlying23 hinf hz0 hz1 hz2 _ [] (by rfl) (zown_empty (by repeat (first | (with_reducible exact zblk_new _ _ _ (by first | rfl | (simp; done))) | (with_reducible refine zblk_alloc _ ?_) | (with_reducible refine zblk_drew ?_))) (by first | omega | (simp; done) | (simp; omega))) A1 a c1 (row.take a) (by rfl) HLt.out (HS1.out _ (HBl.out _ (by assumption))) (by simp; omega) (by first | omega | (simp; done) | (simp; omega)) ?_; intro v6 w6 hown6 hgrow6; have p6 : Below wr.heap.size wr w6 := Below.grown (by repeat (first | exact hr | apply Below.drew | (refine Below.alloc ?_ (by first | exact Below.size (by assumption) | omega | (simp; done) | (simp; omega)) _))) hgrow6 (by first | omega | (simp; done) | (simp; omega)) (zemp_ge (by first | omega | (simp; done) | (simp; omega))); have pp6 := HBs.out.trans (p6.mono hsz); simp only [List.nil_append] at hown6; have z6 := p6.size; have y6 := hgrow6.size))
              all_goals
                have P9 := hid pp9
                rw [← HIl.out] at hown9 hown8 hgrow9
                have hO9 := hid (HPush.out _ _ g8 c8 v9 _ (by repeat (first | exact p8 | apply Below.drew | (refine Below.alloc ?_ (by first | omega | (simp; done) | (simp; omega)) _))) (zown_alloc hown8 _) hg8 hown9 hgrow9)
                clear hown6 hgrow6 hown7 hgrow7 hown8 hgrow8 hown9 hgrow9 p6 pp6 z6 y6 p7 pp7 z7 y7 p8 pp8 z8 y8 pp9 hg8 hr hr1
                as_aux_lemma =>
                  go_wp2_with fail
                  go_roundw
                  case rel => exact ⟨a + 1, by omega, by go_num, by rw [HPre.out]; exact hO9.out, P9⟩
                  case measure => simp [intOf]; omega
            · obtain rfl : a = k + 1 := by omega
              have HNx := hid (show inzPre os (k : Int) i (k + 1) = inzPre os (k : Int) (i + 1) 0 from by
                have := inzPre_i os (k : Int) i (by rw [HL.out]; exact hil)
                rwa [HRow.out] at this)
              as_aux_lemma =>
                go_wp2_with fail
                go_roundw
                case rel => exact ⟨i + 1, by omega, by go_num, by rw [← HNx.out]; exact HN2.out, HBs⟩
                case measure => simp [intOf]; omega
        · obtain rfl : i = L := by omega
          have HEnd := hid (show inzPre os (k : Int) i 0 = ordz (k + 1) from by
            rw [← HL.out, inzPre_end, ← HOS.out]; rfl)
          have HBz := hid (HB.out.trans (HBq.out.mono HB.out.size))
          have hbz := HB.out.size
          as_aux_lemma =>
            go_wp2_with fail
            go_roundw
            case rel => exact ⟨k + 1, by omega, by go_num, by rw [← HEnd.out]; exact HN.out.weak hbz, HBz⟩
            case measure => simp [intOf]; omega
    · obtain rfl : k = n := by omega
      rw [show os = ordz k from HOS.out.symm] at HO HL
      as_aux_lemma =>
        go_wp2
        go_ret
        exact ⟨HB.out, Ao, co, by rw [HL.out]; rfl, HO.out⟩
end Go.Proofs.Ytbffdpcogfmomaa
