/- What is seen of a state by one more letter: viewOf of package menu. -/
import Derived.Test.YtkboeldafppicaaMaP
import Derived.Laws.Rows
import Derived.Deep.RegionHeld3
set_option linter.unusedVariables false
set_option linter.unusedSimpArgs false
namespace Go.Proofs.Ytkboeldafppicaa
open Go.RowKit

/-- A truth value and six numbers, in memory or as a value. -/
def vcells (b : Bool) (xs : List Int) : Array Value := (Value.bool b :: xs.map (Value.int .i64)).toArray
def VV (v : Bool × List Int) : Value := .agg (vcells v.1 v.2)
def VBox (w : World) (t : TypeId) (B : Nat) (b : Bool) (xs : List Int) : Prop := w.heap[B]? = some (.cells (vcells b xs) t (0, 0))
section
variable {w w' : World} {t : TypeId} {B : Nat} {b : Bool} {xs : List Int}
theorem VBox.cell (h : VBox w t B b xs) (i : Nat) (hi : i < xs.length) : w.cell? ⟨B, i + 1, none⟩ = some (.int .i64 (xs[i]?.getD 0)) := by
  unfold VBox at h
  unfold World.cell?
  simp [h, vcells, List.getElem?_eq_getElem hi]
theorem VBox.cell0 (h : VBox w t B b xs) : w.cell? ⟨B, 0, none⟩ = some (.bool b) := by
  unfold VBox at h
  unfold World.cell?
  simp [h, vcells]
theorem VBox.frozen (h : VBox w t B b xs) (i : Nat) : w.frozen? ⟨B, i, none⟩ = false := by
  unfold VBox at h
  unfold World.frozen?
  simp [h]
theorem VBox.made (w : World) (t : TypeId) (b : Bool) (xs : List Int) : VBox (w.alloc (.cells (vcells b xs) t)) t w.heap.size b xs := by
  unfold VBox World.alloc
  simp
theorem VBox.lt (h : VBox w t B b xs) : B < w.heap.size := cell_lt h.cell0
theorem VBox.below (h : VBox w t B b xs) (hb : Below w.heap.size w w') : VBox w' t B b xs := by
  unfold VBox at h ⊢
  rw [hb.block B (VBox.lt h)]; exact h
theorem VBox.set (h : VBox w t B b xs) (k : Nat) (x : Int) : VBox (w.setCell ⟨B, 1 + k, none⟩ (.int .i64 x)) t B b (xs.set k x) := by
  unfold VBox at h ⊢
  rw [heap_setCell_same w B (1 + k) _ _ _ h]
  simp [vcells, Nat.add_comm 1 k]
theorem VBox.other (h : VBox w t B b xs) (p : Addr) (v : Value) (hp : B ≠ p.block) : VBox (w.setCell p v) t B b xs := by
  unfold VBox at h ⊢
  rw [Below.heap_setCell _ _ _ _ hp]; exact h
end
/-- The six numbers of a view. -/
def vnum (L : Nat) (f : Nat → Int) (k : Nat) : List Int := rowPad L ((List.range k).map f)
theorem vnum_len (L : Nat) (f : Nat → Int) (k : Nat) (h : k ≤ L) : (vnum L f k).length = L := rowPad_len _ _ (by simp; omega)
theorem vnum_succ (L : Nat) (f : Nat → Int) (k : Nat) (h : k < L) : (vnum L f k).set k (f k) = vnum L f (k + 1) := by
  have := rowPad_set L ((List.range k).map f) (f k) (by simp; omega)
  simp only [List.length_map, List.length_range] at this
  unfold vnum
  rw [this, List.range_succ, List.map_append]; rfl
theorem vnum_zero (f : Nat → Int) : vnum 6 f 0 = [0, 0, 0, 0, 0, 0] := rfl

set_option maxRecDepth 100000 in
set_option maxHeartbeats 4000000 in
theorem viewOf_any (L s nc ac cK : Nat) (Na Aa K : Option Addr) (rows : List (List Int)) (accs : List Bool) (al : List Int) (w : World) (h : MachAt w Na rows Aa accs) (hg : GoodM L rows accs) (hs : s < rows.length) (hK : Ints w K al) (hal : al.length = rows.length) :
    Calls Try.prog 140 #[machV L Na rows.length nc Aa rows.length ac, .int .i64 s, .slice K rows.length cK] w fun e w' => Below w.heap.size w w' ∧ e = .returned (VV (mA accs s, vnum 6 (fun c => al[mN rows s c]?.getD 0) L)) := by
  have hn := h.nlen
  have hL := hg.hi
  have HH := hid h
  have HG := hid hg
  have HK := hid hK
  have HA := hid hal
  obtain ⟨b0, o0, rfl, hKc⟩ : ∃ b o, K = some ⟨b, o, none⟩ ∧ ∀ i, i < al.length → w.cell? ⟨b, o + i, none⟩ = some (.int .i64 (al[i]?.getD 0)) := by
    rcases hK.at_ with e | hh
    · rw [e] at hal; simp at hal; omega
    · exact hh
  have HKc := hid hKc
  clear h hg hK hKc hal
  go_enter Try.func140, Try.ntmps140
  unfold machV
  go_wp2_with fail
  refine (accepts_any L s nc ac rows.length rows.length Na Aa rows accs _ (HH.out.below (((Below.refl _ _).alloc (Nat.le_refl _) _).alloc (by simp) _)) (by rw [HG.out.acc]; exact hs) HG.out.acc.symm).mono ?_
  rintro e w1 ⟨rfl, rfl⟩
  generalize hav : mA accs s = av
  have hW : ∃ W4, W4 = (((w.alloc (.cells #[.int .i64 (L : Int), .slice Na rows.length nc, .slice Aa rows.length ac] 73)).alloc (.cells #[.bool false, .int .i64 0, .int .i64 0, .int .i64 0, .int .i64 0, .int .i64 0, .int .i64 0] 148)).alloc (machO L Na rows.length nc Aa rows.length ac)).alloc (.cells #[.bool av, .int .i64 0, .int .i64 0, .int .i64 0, .int .i64 0, .int .i64 0, .int .i64 0] 148) := ⟨_, rfl⟩
  obtain ⟨W4, hW⟩ := hW
  have HB4 : Hid (Below w.heap.size w W4) := by
    rw [hW]; exact (((((Below.refl _ _).alloc (Nat.le_refl _) _).alloc (by simp) _).alloc (by simp; omega) _).alloc (by simp; omega) _)
  have HV4 : Hid (VBox W4 148 (w.heap.size + 1 + 1 + 1) av (vnum 6 (fun c => al[mN rows s c]?.getD 0) 0)) := by
    have := VBox.made (((w.alloc (.cells #[.int .i64 (L : Int), .slice Na rows.length nc, .slice Aa rows.length ac] 73)).alloc (.cells #[.bool false, .int .i64 0, .int .i64 0, .int .i64 0, .int .i64 0, .int .i64 0, .int .i64 0] 148)).alloc (machO L Na rows.length nc Aa rows.length ac)) 148 av (vnum 6 (fun c => al[mN rows s c]?.getD 0) 0)
    simp only [World.size_alloc] at this
    rw [hW]; exact this
  have HR4 : Hid (VBox W4 148 (w.heap.size + 1) false (List.replicate 6 0)) := by
    have := VBox.made (w.alloc (.cells #[.int .i64 (L : Int), .slice Na rows.length nc, .slice Aa rows.length ac] 73)) 148 false (List.replicate 6 0)
    simp only [World.size_alloc] at this
    rw [hW]; exact ((this.below ((Below.refl _ _).alloc (Nat.le_refl _) _)).below ((Below.refl _ _).alloc (Nat.le_refl _) _))
  have c0 : W4.cell? ⟨w.heap.size, 0, none⟩ = some (.int .i64 (L : Int)) := by rw [hW]; go_simp
  have c1 : W4.cell? ⟨w.heap.size, 1, none⟩ = some (.slice Na rows.length nc) := by rw [hW]; go_simp
  have c2 : W4.cell? ⟨w.heap.size, 2, none⟩ = some (.slice Aa rows.length ac) := by rw [hW]; go_simp
  have hs4 : w.heap.size + 1 + 1 + 1 < W4.heap.size := HV4.out.lt
  go_wp2
  have hW' := hid hW
  clear hW
  go_loopw [15] (fun i wr => ∃ (k : Nat), k ≤ L ∧ i = .int .i64 k ∧ Hid (VBox wr 148 (w.heap.size + 1 + 1 + 1) av (vnum 6 (fun c => al[mN rows s c]?.getD 0) k)) ∧ Hid (VBox wr 148 (w.heap.size + 1) false (List.replicate 6 0)) ∧ Hid (Below w.heap.size w wr) ∧ wr.cell? ⟨w.heap.size, 0, none⟩ = some (.int .i64 (L : Int)) ∧ wr.cell? ⟨w.heap.size, 1, none⟩ = some (.slice Na rows.length nc) ∧ wr.cell? ⟨w.heap.size, 2, none⟩ = some (.slice Aa rows.length ac)) (fun i _ => L - (intOf i).toNat)
  case atStart =>
    have hW'' := hW'.out
    subst hW''
    exact ⟨0, Nat.zero_le _, rfl, HV4.out, HR4.out, HB4.out, c0, c1, c2⟩
  case round =>
    clear HB4 HV4 HR4 c0 c1 c2 hs4 hW'
    obtain ⟨k, hk, rfl, HV, HR, HB, c0, c1, c2⟩ := hrel
    by_cases hlt : k < L
    · have hrow := HG.out.row s hs
      obtain ⟨he1, he2⟩ := HG.out.ent s k hs hlt
      have hvl : (vnum 6 (fun c => al[mN rows s c]?.getD 0) k).length = 6 := vnum_len _ _ _ (by omega)
      have HS := hid (vnum_succ 6 (fun c => al[mN rows s c]?.getD 0) k (by omega))
      go_wp2_with fail
      refine (next_any L s k nc ac rows.length Na Aa rows accs wr (HH.out.below HB.out) hs (by rw [hrow]; exact hlt)).mono ?_
      rintro e w1 ⟨rfl, rfl⟩
      rw [he2]
      generalize mN rows s k = j at *
      have hA1 : Below wr.heap.size wr (wr.alloc (machO L Na rows.length nc Aa rows.length ac)) := (Below.refl _ _).alloc (Nat.le_refl _) _
      have k0 : (wr.alloc (machO L Na rows.length nc Aa rows.length ac)).cell? ⟨b0, o0 + j, none⟩ = some (.int .i64 (al[j]?.getD 0)) := by
        have := HKc.out j (by rw [HA.out]; exact he1)
        rw [hA1.cell (by rw [← World.cell?_of_block (w := w) (w' := wr) (a := ⟨b0, o0 + j, none⟩) (HB.out.block _ (cell_lt this))] at this; exact cell_lt this), HB.out.cell (cell_lt this)]; exact this
      have HV1 := HV.out.below hA1
      have HR1 := hid (HR.out.below hA1)
      have v1 := HV1.cell k (by omega)
      rw [Nat.add_comm k 1] at v1
      have f1 := HV1.frozen (1 + k)
      have d0 := (hA1.cell (cell_lt c0)).trans c0
      have d1 := (hA1.cell (cell_lt c1)).trans c1
      have d2 := (hA1.cell (cell_lt c2)).trans c2
      have HV2 := hid (HV1.set k (al[j]?.getD 0))
      rw [HS.out] at HV2
      have HB1 := hid (HB.out.trans (hA1.mono HB.out.size))
      have hk6 : k < 6 := by omega
      generalize al[j]?.getD 0 = x at *
      clear hvl hrow he2 HS HV1 c0 c1 c2 hA1
      generalize wr.alloc (machO L Na rows.length nc Aa rows.length ac) = wq at *
      go_wp2
      go_roundw
      case rel =>
        refine ⟨k + 1, by omega, by go_num, HV2.out, HR1.out.other _ _ (by simp; done), HB1.out.setCell (p := ⟨w.heap.size + 1 + 1 + 1, 1 + k, none⟩) (by simp; omega) _, ?_, ?_, ?_⟩
        · rw [World.cell?_setCell_far _ _ _ _ (by simp; omega)]; exact d0
        · rw [World.cell?_setCell_far _ _ _ _ (by simp; omega)]; exact d1
        · rw [World.cell?_setCell_far _ _ _ _ (by simp; omega)]; exact d2
      case measure => simp [intOf]; omega
    · obtain rfl : k = L := by omega
      have hvl : (vnum 6 (fun c => al[mN rows s c]?.getD 0) k).length = 6 := vnum_len _ _ _ (by omega)
      obtain ⟨vs, hvs⟩ : ∃ vs, vnum 6 (fun c => al[mN rows s c]?.getD 0) k = vs := ⟨_, rfl⟩
      rw [hvs] at HV hvl
      have HVS := hid hvs
      clear hvs
      obtain ⟨x0, x1, x2, x3, x4, x5, rfl⟩ : ∃ x0 x1 x2 x3 x4 x5, vs = [x0, x1, x2, x3, x4, x5] := by
        match vs, hvl with
        | [x0, x1, x2, x3, x4, x5], _ => exact ⟨x0, x1, x2, x3, x4, x5, rfl⟩
      have v0 := HV.out.cell0
      have v1 : wr.cell? ⟨w.heap.size + 1 + 1 + 1, 1, none⟩ = some (.int .i64 x0) := HV.out.cell 0 (by simp)
      have v2 : wr.cell? ⟨w.heap.size + 1 + 1 + 1, 2, none⟩ = some (.int .i64 x1) := HV.out.cell 1 (by simp)
      have v3 : wr.cell? ⟨w.heap.size + 1 + 1 + 1, 3, none⟩ = some (.int .i64 x2) := HV.out.cell 2 (by simp)
      have v4 : wr.cell? ⟨w.heap.size + 1 + 1 + 1, 4, none⟩ = some (.int .i64 x3) := HV.out.cell 3 (by simp)
      have v5 : wr.cell? ⟨w.heap.size + 1 + 1 + 1, 5, none⟩ = some (.int .i64 x4) := HV.out.cell 4 (by simp)
      have v6 : wr.cell? ⟨w.heap.size + 1 + 1 + 1, 6, none⟩ = some (.int .i64 x5) := HV.out.cell 5 (by simp)
      have r0 := HR.out.cell0
      have r1 : wr.cell? ⟨w.heap.size + 1, 1, none⟩ = some (.int .i64 0) := HR.out.cell 0 (by simp)
      have r2 : wr.cell? ⟨w.heap.size + 1, 2, none⟩ = some (.int .i64 0) := HR.out.cell 1 (by simp)
      have r3 : wr.cell? ⟨w.heap.size + 1, 3, none⟩ = some (.int .i64 0) := HR.out.cell 2 (by simp)
      have r4 : wr.cell? ⟨w.heap.size + 1, 4, none⟩ = some (.int .i64 0) := HR.out.cell 3 (by simp)
      have r5 : wr.cell? ⟨w.heap.size + 1, 5, none⟩ = some (.int .i64 0) := HR.out.cell 4 (by simp)
      have r6 : wr.cell? ⟨w.heap.size + 1, 6, none⟩ = some (.int .i64 0) := HR.out.cell 5 (by simp)
      have y0 := HR.out.frozen 0
      have y1 := HR.out.frozen 1
      have y2 := HR.out.frozen 2
      have y3 := HR.out.frozen 3
      have y4 := HR.out.frozen 4
      have y5 := HR.out.frozen 5
      have y6 := HR.out.frozen 6
      clear hvl
      go_wp2
      have t0 : (((((((wr.setCell ⟨w.heap.size + 1, 0, none⟩ (.bool av)).setCell ⟨w.heap.size + 1, 1, none⟩ (.int .i64 x0)).setCell ⟨w.heap.size + 1, 2, none⟩ (.int .i64 x1)).setCell ⟨w.heap.size + 1, 3, none⟩ (.int .i64 x2)).setCell ⟨w.heap.size + 1, 4, none⟩ (.int .i64 x3)).setCell ⟨w.heap.size + 1, 5, none⟩ (.int .i64 x4)).setCell ⟨w.heap.size + 1, 6, none⟩ (.int .i64 x5)).cell? ⟨w.heap.size + 1, 0, none⟩ = some (.bool av) := by go_simp
      have t1 : (((((((wr.setCell ⟨w.heap.size + 1, 0, none⟩ (.bool av)).setCell ⟨w.heap.size + 1, 1, none⟩ (.int .i64 x0)).setCell ⟨w.heap.size + 1, 2, none⟩ (.int .i64 x1)).setCell ⟨w.heap.size + 1, 3, none⟩ (.int .i64 x2)).setCell ⟨w.heap.size + 1, 4, none⟩ (.int .i64 x3)).setCell ⟨w.heap.size + 1, 5, none⟩ (.int .i64 x4)).setCell ⟨w.heap.size + 1, 6, none⟩ (.int .i64 x5)).cell? ⟨w.heap.size + 1, 1, none⟩ = some (.int .i64 x0) := by go_simp
      have t2 : (((((((wr.setCell ⟨w.heap.size + 1, 0, none⟩ (.bool av)).setCell ⟨w.heap.size + 1, 1, none⟩ (.int .i64 x0)).setCell ⟨w.heap.size + 1, 2, none⟩ (.int .i64 x1)).setCell ⟨w.heap.size + 1, 3, none⟩ (.int .i64 x2)).setCell ⟨w.heap.size + 1, 4, none⟩ (.int .i64 x3)).setCell ⟨w.heap.size + 1, 5, none⟩ (.int .i64 x4)).setCell ⟨w.heap.size + 1, 6, none⟩ (.int .i64 x5)).cell? ⟨w.heap.size + 1, 2, none⟩ = some (.int .i64 x1) := by go_simp
      have t3 : (((((((wr.setCell ⟨w.heap.size + 1, 0, none⟩ (.bool av)).setCell ⟨w.heap.size + 1, 1, none⟩ (.int .i64 x0)).setCell ⟨w.heap.size + 1, 2, none⟩ (.int .i64 x1)).setCell ⟨w.heap.size + 1, 3, none⟩ (.int .i64 x2)).setCell ⟨w.heap.size + 1, 4, none⟩ (.int .i64 x3)).setCell ⟨w.heap.size + 1, 5, none⟩ (.int .i64 x4)).setCell ⟨w.heap.size + 1, 6, none⟩ (.int .i64 x5)).cell? ⟨w.heap.size + 1, 3, none⟩ = some (.int .i64 x2) := by go_simp
      have t4 : (((((((wr.setCell ⟨w.heap.size + 1, 0, none⟩ (.bool av)).setCell ⟨w.heap.size + 1, 1, none⟩ (.int .i64 x0)).setCell ⟨w.heap.size + 1, 2, none⟩ (.int .i64 x1)).setCell ⟨w.heap.size + 1, 3, none⟩ (.int .i64 x2)).setCell ⟨w.heap.size + 1, 4, none⟩ (.int .i64 x3)).setCell ⟨w.heap.size + 1, 5, none⟩ (.int .i64 x4)).setCell ⟨w.heap.size + 1, 6, none⟩ (.int .i64 x5)).cell? ⟨w.heap.size + 1, 4, none⟩ = some (.int .i64 x3) := by go_simp
      have t5 : (((((((wr.setCell ⟨w.heap.size + 1, 0, none⟩ (.bool av)).setCell ⟨w.heap.size + 1, 1, none⟩ (.int .i64 x0)).setCell ⟨w.heap.size + 1, 2, none⟩ (.int .i64 x1)).setCell ⟨w.heap.size + 1, 3, none⟩ (.int .i64 x2)).setCell ⟨w.heap.size + 1, 4, none⟩ (.int .i64 x3)).setCell ⟨w.heap.size + 1, 5, none⟩ (.int .i64 x4)).setCell ⟨w.heap.size + 1, 6, none⟩ (.int .i64 x5)).cell? ⟨w.heap.size + 1, 5, none⟩ = some (.int .i64 x4) := by go_simp
      have t6 : (((((((wr.setCell ⟨w.heap.size + 1, 0, none⟩ (.bool av)).setCell ⟨w.heap.size + 1, 1, none⟩ (.int .i64 x0)).setCell ⟨w.heap.size + 1, 2, none⟩ (.int .i64 x1)).setCell ⟨w.heap.size + 1, 3, none⟩ (.int .i64 x2)).setCell ⟨w.heap.size + 1, 4, none⟩ (.int .i64 x3)).setCell ⟨w.heap.size + 1, 5, none⟩ (.int .i64 x4)).setCell ⟨w.heap.size + 1, 6, none⟩ (.int .i64 x5)).cell? ⟨w.heap.size + 1, 6, none⟩ = some (.int .i64 x5) := by go_simp
      have HBz := hid (((((((HB.out.setCell (p := ⟨w.heap.size + 1, 0, none⟩) (by simp) (.bool av)).setCell (p := ⟨w.heap.size + 1, 1, none⟩) (by simp) (.int .i64 x0)).setCell (p := ⟨w.heap.size + 1, 2, none⟩) (by simp) (.int .i64 x1)).setCell (p := ⟨w.heap.size + 1, 3, none⟩) (by simp) (.int .i64 x2)).setCell (p := ⟨w.heap.size + 1, 4, none⟩) (by simp) (.int .i64 x3)).setCell (p := ⟨w.heap.size + 1, 5, none⟩) (by simp) (.int .i64 x4)).setCell (p := ⟨w.heap.size + 1, 6, none⟩) (by simp) (.int .i64 x5))
      generalize (((((((wr.setCell ⟨w.heap.size + 1, 0, none⟩ (.bool av)).setCell ⟨w.heap.size + 1, 1, none⟩ (.int .i64 x0)).setCell ⟨w.heap.size + 1, 2, none⟩ (.int .i64 x1)).setCell ⟨w.heap.size + 1, 3, none⟩ (.int .i64 x2)).setCell ⟨w.heap.size + 1, 4, none⟩ (.int .i64 x3)).setCell ⟨w.heap.size + 1, 5, none⟩ (.int .i64 x4)).setCell ⟨w.heap.size + 1, 6, none⟩ (.int .i64 x5)) = wz at *
      refine bodyPost_ret (v := VV (av, [x0, x1, x2, x3, x4, x5])) (by simp [VV, vcells, results, Try.results140, go_sem, t0, t1, t2, t3, t4, t5, t6]) rfl ⟨HBz.out, by rw [hav, HVS.out]⟩
end Go.Proofs.Ytkboeldafppicaa
