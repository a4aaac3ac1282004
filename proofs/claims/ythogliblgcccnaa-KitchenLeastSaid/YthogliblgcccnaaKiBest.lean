/- The best order: package kitchen. -/
import Derived.Test.YthogliblgcccnaaKiTryW
import Derived.Deep.Cut
import Derived.Laws.EntriesVeiled
import Derived.Deep.RegionHeld3
set_option linter.unusedVariables false
namespace Go.Proofs.Ythogliblgcccnaa
open Go.RowKit

/-- The first k numbers, and zeros. -/
def initL (n k : Nat) : List Int := (List.range n).map fun i => if i < k then (i : Int) else 0
theorem initL_len (n k : Nat) : (initL n k).length = n := by simp [initL]
theorem initL_all (n : Nat) : initL n n = iotaZ n := by
  unfold initL iotaZ
  refine List.map_congr_left fun i hi => ?_
  rw [if_pos (List.mem_range.1 hi)]
theorem initL_set (n k : Nat) (h : k < n) : (initL n k).set k (k : Int) = initL n (k + 1) := by
  refine List.ext_getElem? fun i => ?_
  rw [List.getElem?_set]
  unfold initL
  rw [List.getElem?_map, List.getElem?_map]
  by_cases e : k = i
  · subst e; simp [h]
  · rw [if_neg e]
    rcases Nat.lt_or_ge i n with hi | hi
    · rw [List.getElem?_range hi]
      simp only [Option.map_some]
      congr 1
      by_cases h2 : i < k
      · rw [if_pos h2, if_pos (by omega)]
      · rw [if_neg h2, if_neg (by omega)]
    · rw [List.getElem?_eq_none (by simpa using hi)]; rfl
theorem own_zero {w : World} {base g n : Nat} (h : w.ownsRow base 3 1 (.slice (some ⟨g, 0, none⟩) n n) n (madeCells #[.int .i64 0] (n * 1)).toList) : w.heap[g]? = some (.cells (cellsI (initL n 0)) 3 (0, 0)) := by
  rcases h.2 with ⟨hv, hn⟩ | ⟨g', cap, cur, hv, hg, hh, hc, hm, hs, ht⟩
  · simp at hv
  · simp only [Value.slice.injEq] at hv
    obtain ⟨hg', _, rfl⟩ := hv
    cases hg'
    rw [hh]
    have e : cur = cellsI (initL n 0) := by
      apply Array.ext'
      rw [Nat.mul_one] at ht hs
      rw [← Array.length_toList] at hs
      rw [List.take_of_length_le (by omega)] at ht
      rw [ht]
      unfold cellsI initL
      refine List.ext_getElem? fun i => ?_
      rcases Nat.lt_or_ge i n with hi | hi
      · simp [madeCells, hi, Nat.mod_one]
      · rw [List.getElem?_eq_none (by simp [madeCells]; omega), List.getElem?_eq_none (by simp; omega)]
    rw [e]
structure BestJ (wy : World) (o : List Int) (m : Int) (wx : World) (B2 B3 : Nat) (F : Option Addr) (cf : Nat) : Prop where
  below : Below wy.heap.size wy wx
  l2 : wy.heap.size ≤ B2
  l3 : wy.heap.size ≤ B3
  ne : B2 ≠ B3
  c3 : wx.heap[B3]? = some (.cells #[.slice F o.length cf] 23 (0, 0))
  c2 : wx.heap[B2]? = some (.cells #[.int .i64 m] 3 (0, 0))
  ints : Ints wx F o
  far : ∀ ad, F = some ad → wy.heap.size ≤ ad.block ∧ ad.block ≠ B2 ∧ ad.block ≠ B3
theorem blk_new {X : World} {o : Obj} {B : Nat} (h : B = X.heap.size) : (X.alloc o).heap[B]? = some o := by subst h; exact heap_alloc_new X o
theorem blk_below {X W : World} {B : Nat} {u : Obj} (hb : Below X.heap.size X W) (h : X.heap[B]? = some u) : W.heap[B]? = some u := (hb.block B (lt_of_block h)).trans h
theorem blk_alloc {X : World} {o u : Obj} {B : Nat} (h : X.heap[B]? = some u) : (X.alloc o).heap[B]? = some u := blk_below ((Below.refl _ _).alloc (Nat.le_refl _) _) h
theorem blk_same {X : World} {B : Nat} {u v : Value} {t : TypeId} (h : X.heap[B]? = some (.cells #[u] t (0, 0))) : (X.setCell ⟨B, 0, none⟩ v).heap[B]? = some (.cells #[v] t (0, 0)) := one_setCell h
theorem blk_other {X : World} {B B' : Nat} {u : Obj} {v : Value} (hn : B ≠ B') (h : X.heap[B]? = some u) : (X.setCell ⟨B', 0, none⟩ v).heap[B]? = some u := by rw [heap_setCell_other _ _ B _ hn]; exact h
theorem ints_set {X : World} {F : Option Addr} {o : List Int} {B : Nat} {v : Value} (hf : ∀ ad, F = some ad → ad.block ≠ B) (h : Ints X F o) : Ints (X.setCell ⟨B, 0, none⟩ v) F o :=
  h.keep3 (((Keep3.refl B B B X).set ⟨B, 0, none⟩ v (.inl rfl))) (fun ad had => ⟨hf ad had, hf ad had, hf ad had⟩)
theorem ints_alloc {X : World} {F : Option Addr} {o : List Int} {ob : Obj} (h : Ints X F o) : Ints (X.alloc ob) F o := h.below ((Below.refl _ _).alloc (Nat.le_refl _) _)
theorem ints_below {X W : World} {F : Option Addr} {o : List Int} (hb : Below X.heap.size X W) (h : Ints X F o) : Ints W F o := h.below hb
set_option maxRecDepth 100000 in
set_option maxHeartbeats 8000000 in
theorem kBest_any (a : Option Addr) (l : List Bt) (cap : Nat) (w : World) (hB : Bts w a l) (hl : BtsOk l) :
  Calls Try.prog 60 #[.slice a l.length cap] w (fun en w' => Below w.heap.size w w' ∧ ∃ F cf f m, en = .returned (.tuple #[.slice F f.length cf, .int .i64 m]) ∧ Ints w' F f ∧ IsOrd f l.length ∧ timeO l f = m ∧ IsLeast l m) := by
  obtain ⟨i0, hinf, hz0, hz1, hz2⟩ := info_parts int_info
  have hl7 := hl.len
  have HB := hid hB
  have HL := hid hl
  have P0 := hid ((Below.refl w.heap.size w).alloc (Nat.le_refl _) (.cells #[.slice a l.length cap] 22))
  have K5 := hid (heap_alloc_new w (.cells #[.slice a l.length cap] 22))
  clear hB hl
  go_enter Try.func60, Try.ntmps60
  go_wp2_with (refine wpList_make_full _ rfl _ _ 23 rfl (w.heap.size + 1) 3 i0 (.int .i64 0) 1 Try.underlying23 hinf hz0 hz1 .i64 .i64 l.length l.length l.length rfl rfl rfl rfl (by rw [hz2]; omega) (by unfold maxLen; omega) (by simp) ?_)
  intro wg hog hgg
  have hA := own_zero (n := l.length) (by simpa using hog)
  have P1 := hid (P0.out.grown hgg (by simp) (fun q hq => by cases hq))
  have K5g : Hid (wg.heap[w.heap.size]? = some (.cells #[.slice a l.length cap] 22 (0, 0))) := hid ((hgg.block w.heap.size (by simp) (fun e => by cases e)).trans K5.out)
  have hzg : w.heap.size + 1 < wg.heap.size := lt_of_block hA
  have HA := hid hA
  clear hA hog hgg P0 K5
  go_wp2_with fail
  go_loopw [14] (fun i wr => ∃ (k : Nat), k ≤ l.length ∧ i = .int .i64 k ∧ Hid (wr.heap[w.heap.size + 1]? = some (.cells (cellsI (initL l.length k)) 3 (0, 0))) ∧ Hid (wr.heap[wg.heap.size]? = some (.cells #[.slice (some ⟨w.heap.size + 1, 0, none⟩) l.length l.length] 23 (0, 0))) ∧ Hid (wr.heap[w.heap.size]? = some (.cells #[.slice a l.length cap] 22 (0, 0))) ∧ Hid (Below w.heap.size w wr)) (fun i _ => l.length - (intOf i).toNat)
  case atStart =>
    have hb := (Below.refl wg.heap.size wg).alloc (Nat.le_refl _) (.cells #[.slice (some ⟨w.heap.size + 1, 0, none⟩) l.length l.length] 23)
    exact ⟨0, Nat.zero_le _, rfl, (hb.block _ hzg).trans HA.out, heap_alloc_new _ _, (hb.block _ (by omega)).trans K5g.out, P1.out.trans (hb.mono P1.out.size)⟩
  case round =>
    obtain ⟨k, hk, rfl, HAr, HOr, HLr, HBr⟩ := hrel
    clear HA K5g P1
    have k1 := cell_of_one HOr.out
    by_cases hlt : k < l.length
    · have hd : decide (k < l.length) = true := decide_eq_true hlt
      have a1 := arr_cell HAr.out k (by rw [initL_len]; exact hlt)
      have af := arr_free HAr.out
      have i0' : (0 : Int) ≤ (k : Int) := by omega
      have i1' : (k : Int) < (l.length : Int) := by omega
      have A2 := hid (show (wr.setCell ⟨w.heap.size + 1, k, none⟩ (.int .i64 (k : Int))).heap[w.heap.size + 1]? = some (.cells (cellsI (initL l.length (k + 1))) 3 (0, 0)) by
        rw [heap_setCell_same wr _ k _ _ _ HAr.out, cellsI_set, initL_set _ _ hlt])
      have O2 := hid (show (wr.setCell ⟨w.heap.size + 1, k, none⟩ (.int .i64 (k : Int))).heap[wg.heap.size]? = some (.cells #[.slice (some ⟨w.heap.size + 1, 0, none⟩) l.length l.length] 23 (0, 0)) by
        rw [heap_setCell_other _ _ _ _ (by show wg.heap.size ≠ w.heap.size + 1; omega)]; exact HOr.out)
      have L2 := hid (show (wr.setCell ⟨w.heap.size + 1, k, none⟩ (.int .i64 (k : Int))).heap[w.heap.size]? = some (.cells #[.slice a l.length cap] 22 (0, 0)) by
        rw [heap_setCell_other _ _ _ _ (by show w.heap.size ≠ w.heap.size + 1; omega)]; exact HLr.out)
      have B2 := hid (HBr.out.setCell (p := ⟨w.heap.size + 1, k, none⟩) (Nat.le_succ _) (.int .i64 (k : Int)))
      generalize oAt (initL l.length k) k = v0 at *
      go_wp2
      go_roundw
      case rel => exact ⟨k + 1, by omega, by go_num, A2, O2, L2, B2⟩
      case measure => simp [intOf]; omega
    · obtain rfl : k = l.length := by omega
      have hd : decide (l.length < l.length) = false := decide_eq_false (Nat.lt_irrefl _)
      rw [initL_all] at HAr
      have hoo : IsOrd (iotaZ l.length) l.length := List.Perm.refl _
      obtain ⟨o, ho⟩ : ∃ o, iotaZ l.length = o := ⟨_, rfl⟩
      rw [ho] at HAr hoo
      have hol := hoo.len
      have k5 := cell_of_one HLr.out
      have hr : Below wr.heap.size wr wr := Below.refl _ _
      have HI := hid (arr_ints HAr.out hoo hl7)
      have HC0 := fun W (hb : Below wr.heap.size wr W) => (kclone_any (some ⟨w.heap.size + 1, 0, none⟩) o l.length W (HI.out.below hb) (by omega)).mono (fun e w' h => (And.intro (hb.trans (h.1.mono hb.size)) h : Below wr.heap.size wr w' ∧ CloneV W o e w'))
      have HR0 := fun W (hb : Below wr.heap.size wr W) => (kRun_any a (some ⟨w.heap.size + 1, 0, none⟩) l o cap l.length W (HB.out.below (HBr.out.trans (hb.mono HBr.out.size))) (HI.out.below hb) HL.out hoo).mono (fun e w' h => (And.intro (hb.trans (h.1.mono hb.size)) h : Below wr.heap.size wr w' ∧ ShsR W o (seqO l o) e w'))
      rw [hol] at HC0 HR0
      have HC := hid HC0
      have HR := hid HR0
      have HTt := hid (timeO_to l o)
      have HO := hid hoo
      have HOL := hid hol
      have l1 := lt_of_block HOr.out
      have l5 := lt_of_block HLr.out
      have HKp := hid (fun (w' : World) (hb : Below wr.heap.size wr w') => (show w'.cell? ⟨wg.heap.size, 0, none⟩ = some (.slice (some ⟨w.heap.size + 1, 0, none⟩) l.length l.length) ∧ w'.cell? ⟨w.heap.size, 0, none⟩ = some (.slice a l.length cap) ∧ Below wr.heap.size wr w' from
        ⟨(hb.cell (p := ⟨wg.heap.size, 0, none⟩) l1).trans k1, (hb.cell (p := ⟨w.heap.size, 0, none⟩) l5).trans k5, hb⟩))
      clear HC0 HR0 hoo hol ho
      go_wp2_with fail
      go_cut [6, 7] from 22 (fun s6 s7 wx => ∃ (B2 B3 : Nat) (F : Option Addr) (cf : Nat), s6 = .pointer (some ⟨B3, 0, none⟩) ∧ s7 = .pointer (some ⟨B2, 0, none⟩) ∧ Hid (BestJ wr o (timeO l o) wx B2 B3 F cf))
      case first =>
        go_region_held3 (fun w' => w'.cell? ⟨wg.heap.size, 0, none⟩ = some (.slice (some ⟨w.heap.size + 1, 0, none⟩) l.length l.length) ∧ w'.cell? ⟨w.heap.size, 0, none⟩ = some (.slice a l.length cap) ∧ Below wr.heap.size wr w')
          ((refine HKp.out _ ?_; repeat (first | exact hr | assumption | apply Below.drew | (refine Below.alloc ?_ (by first | exact Below.size (by assumption) | omega | (simp; done) | (simp; omega)) _) | (refine Below.setCell ?_ (by first | exact Below.size (by assumption) | omega | (simp; done) | (simp; omega)) _))))
          ((first | (go_at_call 73; refine (HC.out _ (by first | assumption | (repeat (first | assumption | exact hr | apply Below.drew | (refine Below.alloc ?_ (by first | exact Below.size (by assumption) | omega | (simp; done) | (simp; omega)) _))))).mono ?_; rintro en w5 ⟨p5, hb5, A5, c5, rfl, hi5, hf5⟩; obtain ⟨hc5, hg5⟩ := bcell hb5; have z5 := p5.size; have y5 := hb5.size; (try simp only [World.size_alloc, World.size_drew] at y5); have x5 := (fun (B : Nat) h => Nat.lt_of_lt_of_le (n := B) h hb5.size); have n5 := (fun (B : Nat) h => Nat.ne_of_lt (Nat.lt_of_lt_of_le (n := B) h hb5.size))) | (go_at_call 53; refine (HR.out _ (by first | assumption | (repeat (first | assumption | exact hr | apply Below.drew | (refine Below.alloc ?_ (by first | exact Below.size (by assumption) | omega | (simp; done) | (simp; omega)) _))))).mono ?_; rintro en w6 ⟨p6, hb6, A6, c6, rfl, hs6⟩; obtain ⟨hc6, hg6⟩ := bcell hb6; have z6 := p6.size; have y6 := hb6.size; (try simp only [World.size_alloc] at y6); have x6 := (fun (B : Nat) h => Nat.lt_of_lt_of_le (n := B) h hb6.size); have n6 := (fun (B : Nat) h => Nat.ne_of_lt (Nat.lt_of_lt_of_le (n := B) h hb6.size)); have k56 := (fun (X6 : World) (h : Below X6.heap.size X6 w6) (k : Below w5.heap.size w5 X6) => hb5.trans ((k.trans (h.mono k.size)).mono hb5.size)); have q56 := k56 _ hb6 (by first | (with_reducible exact Below.refl _ _) | (with_reducible exact (Below.refl _ _).alloc (Nat.le_refl _) _) | (with_reducible exact ((Below.refl _ _).alloc (Nat.le_refl _) _).alloc (by simp) _)); obtain ⟨hc7, hg7⟩ := bcell q56; have k57 := (fun (X6 : World) (h : Below X6.heap.size X6 w6) (k : Below w5.heap.size w5 X6) => k.trans (h.mono k.size)); have q57 := k57 _ hb6 (by first | (with_reducible exact Below.refl _ _) | (with_reducible exact (Below.refl _ _).alloc (Nat.le_refl _) _) | (with_reducible exact ((Below.refl _ _).alloc (Nat.le_refl _) _).alloc (by simp) _)); have l56 := Nat.le_trans (show w5.heap.size ≤ _ by first | exact Nat.le_refl _ | (simp; done) | (simp; omega)) hb6.size; have x7 := (fun (B : Nat) h => Nat.lt_of_lt_of_le (n := B) h (Nat.le_trans hb5.size l56)); have n7 := (fun (B : Nat) h => Nat.ne_of_lt (Nat.lt_of_lt_of_le (n := B) h (Nat.le_trans hb5.size l56)))) | (go_at_call 56; refine (kTimeOf_any A6 o (seqO l o) c6 _ (by first | (with_reducible exact hs6) | (with_reducible exact hs6.below ((Below.refl _ _).alloc (Nat.le_refl _) _)) | (with_reducible exact (hs6.below ((Below.refl _ _).alloc (Nat.le_refl _) _)).below ((Below.refl _ _).alloc (Nat.le_refl _) _)))).mono ?_; rintro en w7 ⟨rfl, rfl⟩; rw [← HTt.out])))
        all_goals
          go_wp2_with fail
          go_meet
          case rel =>
           as_aux_lemma =>
            clear hc5 hg5 hc6 hg6 hc7 hg7 x5 n5 x6 n6 x7 n7 k56 k57
            refine ⟨_, _, A5, c5, rfl, rfl, ?_⟩
            refine hid (BestJ.mk ?_ (by omega) (by omega) (by omega) ?_ ?_ ?_ (fun ad had => by have h9 := hf5 ad had; (try simp only [World.size_alloc, World.size_drew] at h9); exact ⟨by omega, by omega, by omega⟩))
            · repeat (first | exact p6 | (refine Below.setCell ?_ (by first | exact Nat.le_refl _ | omega | (simp; done) | (simp; omega) | (dsimp only; omega)) _) | (refine Below.alloc ?_ (by first | omega | (simp; done) | (simp; omega)) _))
            · repeat (first | exact blk_new (by first | (with_reducible rfl) | (simp only [World.size_alloc, World.size_setCell]; done)) | (refine blk_alloc ?_) | (refine blk_same (u := .slice none 0 0) ?_) | (refine blk_other (by omega) ?_) | (refine blk_below hb6 ?_) | (refine blk_below hb5 ?_))
            · repeat (first | exact blk_new (by first | (with_reducible rfl) | (simp only [World.size_alloc, World.size_setCell]; done)) | (refine blk_alloc ?_) | (refine blk_same (u := .int .i64 0) ?_) | (refine blk_other (by omega) ?_) | (refine blk_below hb6 ?_) | (refine blk_below hb5 ?_))
            · repeat (first | exact hi5 | (refine ints_set (fun ad had => by have h9 := hf5 ad had; (try simp only [World.size_alloc, World.size_drew] at h9); omega) ?_) | (refine ints_alloc ?_) | (refine ints_below hb6 ?_))
      case rest =>
        as_aux_lemma =>
          obtain ⟨B2, B3, F, cf, rfl, rfl, HJ⟩ := hcut
          have hJ := HJ.out
          have m2 := lt_of_block hJ.c2
          have m3 := lt_of_block hJ.c3
          have j2 := hJ.l2
          have j3 := hJ.l3
          have ltg := lt_of_block HAr.out
          have hD : Dist w.heap.size (w.heap.size + 1) wg.heap.size B2 B3 wc.heap.size w.heap.size := ⟨by omega, by omega, by omega, by omega, by omega, by omega, by omega, by omega, by omega, by omega, hJ.ne, by omega, by omega, by omega, by omega⟩
          have hb4 := (Below.refl wc.heap.size wc).alloc (Nat.le_refl _) (.cells #[tryV wg.heap.size B2 B3 wc.heap.size w.heap.size] 86)
          have hS : TryS w a l cap (w.heap.size + 1) wg.heap.size B2 B3 wc.heap.size w.heap.size l.length (wc.alloc (.cells #[tryV wg.heap.size B2 B3 wc.heap.size w.heap.size] 86)) o (timeO l o) := by
            refine ⟨HBr.out.trans ((hJ.below.mono HBr.out.size).trans (hb4.mono (by have := hJ.below.size; have := HBr.out.size; omega))), blk_alloc (blk_below hJ.below HAr.out), blk_alloc (blk_below hJ.below (by rw [HOL.out]; exact HOr.out)), blk_alloc hJ.c2, ⟨F, cf, o, blk_alloc hJ.c3, hJ.ints.below hb4, fun ad had => ⟨by have := (hJ.far ad had).1; omega, (hJ.far ad had).2.1, (hJ.far ad had).2.2⟩, HO.out, rfl⟩, blk_new rfl, blk_alloc (blk_below hJ.below HLr.out)⟩
          have HT : Hid (∀ W, TryS w a l cap (w.heap.size + 1) wg.heap.size B2 B3 wc.heap.size w.heap.size l.length W o (timeO l o) → Calls Try.prog 74 #[.int .i64 0, .agg #[.int .i64 0, .int .i64 0, .int .i64 0, .int .i64 0, .int .i64 0], .pointer (some ⟨wg.heap.size, 0, none⟩), .pointer (some ⟨B2, 0, none⟩), .pointer (some ⟨B3, 0, none⟩), .pointer (some ⟨wc.heap.size, 0, none⟩), .pointer (some ⟨w.heap.size, 0, none⟩)] W (TryR w a l cap (w.heap.size + 1) wg.heap.size B2 B3 wc.heap.size w.heap.size l.length W o (timeO l o) 0)) :=
            hid (fun W hW => try_any hD HL.out HB.out l.length 0 (Nat.zero_add _) W o (timeO l o) 0 0 0 hW HO.out)
          have HS := hid hS
          have HDi := hid hD
          have HSz := hid HBr.out.size
          clear hS hJ HJ hb4 hD k1 k5 HC HR HKp HI
          unfold tryV at HS
          go_wp2_with fail
          refine (HT.out _ HS.out).mono ?_
          rintro e w5 ⟨rfl, hk5, m5, hm5, hs5, hlow5⟩
          have K2 := cell_of_one hs5.cLst
          obtain ⟨F5, cf5, f5, c5, i5, fa5, o5, t5⟩ := hs5.cFnd
          have K3 := cell_of_one c5
          have HB5 := hid hs5.below
          have HI5 := hid i5
          have HO5 := hid o5
          have HT5 := hid t5
          have HLw := hid (hlow5.least ⟨f5, o5, t5⟩)
          clear hs5 hlow5 hk5 i5 o5 t5 c5 fa5 HT HS
          go_wp2_with fail
          go_quiet (fail)
          go_wp2_with fail
          go_ret2
          exact ⟨below_drewN HB5.out _, F5, cf5, f5, m5, rfl, HI5.out.below (below_drewN (Below.refl _ _) _), HO5.out, HT5.out, HLw.out⟩
end Go.Proofs.Ythogliblgcccnaa
