/- The machine of a rule whose states are of type recent. -/
import Derived.Test.YtkboeldafppicaaLstI
import Derived.Test.YtkboeldafppicaaTakeD
import Derived.Deep.Cut
import Derived.Deep.DeepCutAuto
import Derived.Deep.LoopGhost
import Derived.Deep.RegionHeld3
set_option linter.unusedVariables false
set_option linter.unusedSimpArgs false
namespace Go.Proofs.Ytkboeldafppicaa
open Go.RowKit Go.Maps

abbrev Rec := Int × Int × Bool
def VR (s : Rec) : Value := .agg #[.int .i64 s.1, .int .i64 s.2.1, .bool s.2.2]
def clR (s : Rec) : List Value := [.int .i64 s.1, .int .i64 s.2.1, .bool s.2.2]
theorem VR_inj : ∀ s t, VR s = VR t → s = t := by
  rintro ⟨a, b, c⟩ ⟨a', b', c'⟩ h
  simp only [VR, Value.agg.injEq, Array.mk.injEq, List.cons.injEq, Value.int.injEq, Value.bool.injEq, true_and, and_true] at h
  obtain ⟨rfl, rfl, rfl⟩ := h
  rfl
theorem rec_info : (Try.prog.info? 103).map (fun i => (i.zero, i.size, i.bytes)) = some (some (.agg #[.int .i64 0, .int .i64 0, .bool false]), 3, 24) := by kernel_rfl
theorem clR_len (s : Rec) : (clR s).length = 3 := rfl
theorem flatR_at (l : List Rec) (i : Nat) (s : Rec) (h : l[i]? = some s) : (l.flatMap clR)[i * 3]? = some (.int .i64 s.1) ∧ (l.flatMap clR)[i * 3 + 1]? = some (.int .i64 s.2.1) ∧ (l.flatMap clR)[i * 3 + 2]? = some (.bool s.2.2) := by
  induction l generalizing i with
  | nil => simp at h
  | cons x t ih =>
    cases i with
    | zero => simp at h; subst h; simp [clR]
    | succ i =>
      have := ih i (by simpa using h)
      have e1 : (i + 1) * 3 = i * 3 + 3 := by omega
      rw [e1]
      simpa [clR] using this

set_option maxRecDepth 100000 in
set_option maxHeartbeats 8000000 in
theorem listedR_any (L : Nat) (hL : L ≤ 6) (hL1 : 1 ≤ L) (s0 : Rec) (next : Rec → Nat → Rec) (acc : Rec → Bool) (Pd : Rec → Prop) (M : Nat) (fN fA : Nat) (preN postN preA postA : Array Value) (w : World)
    (h0 : Pd s0) (hcl : ∀ s c, Pd s → c < L → Pd (next s c)) (hI : ∀ s, Pd s → I64 s.1 ∧ I64 s.2.1) (hM : ∀ l : List Rec, l.Nodup → (∀ s ∈ l, Pd s) → l.length ≤ M) (hM4 : M ≤ 5000)
    (egN : ∀ args w, (callFunc fN args).run Try.prog w = .ok (.enter fN args) w) (egA : ∀ args w, (callFunc fA args).run Try.prog w = .ok (.enter fA args) w)
    (hnext : ∀ w' s (c : Nat), Below w.heap.size w w' → Pd s → c < L → Calls Try.prog fN (preN ++ (#[VR s, .int .i64 c] ++ postN)) w' fun e w'' => Below w'.heap.size w' w'' ∧ e = .returned (VR (next s c)))
    (hacc : ∀ w' s, Below w.heap.size w w' → Pd s → Calls Try.prog fA (preA ++ (#[VR s] ++ postA)) w' fun e w'' => Below w'.heap.size w' w'' ∧ e = .returned (.bool (acc s))) :
  Calls Try.prog 128 #[.agg #[.int .i64 L, .int .i64 s0.1, .int .i64 s0.2.1, .bool s0.2.2, .func (.func fN) preN postN, .func (.func fA) preA postA]] w fun e w' => Below w.heap.size w w' ∧ ∃ i Na nc Aa ac, Full L next acc s0 i ∧ i ≤ M ∧ e = .returned (machV L Na i nc Aa i ac) ∧ MachFrom w' w.heap.size Na (listTo L next acc s0 i).2.1 Aa (listTo L next acc s0 i).2.2 := by
  obtain ⟨i0, hinf, hz0, hz1, hz2⟩ := info_parts rec_info
  have HN := hid hnext
  have HA := hid hacc
  have HM := hid hM
  have HLo := hid (fun i => listTo_ok L next acc s0 hcl h0 i)
  have HI := hid hI
  have HCl := hid hcl
  clear hnext hacc hM hcl hI
  obtain ⟨a0, b0, l0⟩ := s0
  dsimp only
  obtain ⟨kl0, hk0⟩ := key_recent a0 b0 l0 (HI.out _ h0).1 (HI.out _ h0).2
  have hB1 : Below w.heap.size w ((w.alloc (.cells #[.int .i64 (L : Int), .int .i64 a0, .int .i64 b0, .bool l0, .func (.func fN) preN postN, .func (.func fA) preA postA] 107)).alloc (.cells #[.int .i64 0, .slice none 0 0, .slice none 0 0] 73)) := ((Below.refl _ _).alloc (Nat.le_refl _) _).alloc (by simp) _
  go_enter Try.func128, Try.ntmps128
  go_upto_region 1 with (fail)
  have b0c : ((w.alloc (.cells #[.int .i64 (L : Int), .int .i64 a0, .int .i64 b0, .bool l0, .func (.func fN) preN postN, .func (.func fA) preA postA] 107)).alloc (.cells #[.int .i64 0, .slice none 0 0, .slice none 0 0] 73)).cell? ⟨w.heap.size, 0, none⟩ = some (.int .i64 (L : Int)) := by go_simp
  have b1c : ((w.alloc (.cells #[.int .i64 (L : Int), .int .i64 a0, .int .i64 b0, .bool l0, .func (.func fN) preN postN, .func (.func fA) preA postA] 107)).alloc (.cells #[.int .i64 0, .slice none 0 0, .slice none 0 0] 73)).cell? ⟨w.heap.size, 1, none⟩ = some (.int .i64 a0) := by go_simp
  have b2c : ((w.alloc (.cells #[.int .i64 (L : Int), .int .i64 a0, .int .i64 b0, .bool l0, .func (.func fN) preN postN, .func (.func fA) preA postA] 107)).alloc (.cells #[.int .i64 0, .slice none 0 0, .slice none 0 0] 73)).cell? ⟨w.heap.size, 2, none⟩ = some (.int .i64 b0) := by go_simp
  have b3c : ((w.alloc (.cells #[.int .i64 (L : Int), .int .i64 a0, .int .i64 b0, .bool l0, .func (.func fN) preN postN, .func (.func fA) preA postA] 107)).alloc (.cells #[.int .i64 0, .slice none 0 0, .slice none 0 0] 73)).cell? ⟨w.heap.size, 3, none⟩ = some (.bool l0) := by go_simp
  have b4c : ((w.alloc (.cells #[.int .i64 (L : Int), .int .i64 a0, .int .i64 b0, .bool l0, .func (.func fN) preN postN, .func (.func fA) preA postA] 107)).alloc (.cells #[.int .i64 0, .slice none 0 0, .slice none 0 0] 73)).cell? ⟨w.heap.size, 4, none⟩ = some (.func (.func fN) preN postN) := by go_simp
  have b5c : ((w.alloc (.cells #[.int .i64 (L : Int), .int .i64 a0, .int .i64 b0, .bool l0, .func (.func fN) preN postN, .func (.func fA) preA postA] 107)).alloc (.cells #[.int .i64 0, .slice none 0 0, .slice none 0 0] 73)).cell? ⟨w.heap.size, 5, none⟩ = some (.func (.func fA) preA postA) := by go_simp
  have r0c : ((w.alloc (.cells #[.int .i64 (L : Int), .int .i64 a0, .int .i64 b0, .bool l0, .func (.func fN) preN postN, .func (.func fA) preA postA] 107)).alloc (.cells #[.int .i64 0, .slice none 0 0, .slice none 0 0] 73)).cell? ⟨w.heap.size + 1, 0, none⟩ = some (.int .i64 0) := by go_simp
  have r1c : ((w.alloc (.cells #[.int .i64 (L : Int), .int .i64 a0, .int .i64 b0, .bool l0, .func (.func fN) preN postN, .func (.func fA) preA postA] 107)).alloc (.cells #[.int .i64 0, .slice none 0 0, .slice none 0 0] 73)).cell? ⟨w.heap.size + 1, 1, none⟩ = some (.slice none 0 0) := by go_simp
  have r2c : ((w.alloc (.cells #[.int .i64 (L : Int), .int .i64 a0, .int .i64 b0, .bool l0, .func (.func fN) preN postN, .func (.func fA) preA postA] 107)).alloc (.cells #[.int .i64 0, .slice none 0 0, .slice none 0 0] 73)).cell? ⟨w.heap.size + 1, 2, none⟩ = some (.slice none 0 0) := by go_simp
  have r0f : ∀ o, ((w.alloc (.cells #[.int .i64 (L : Int), .int .i64 a0, .int .i64 b0, .bool l0, .func (.func fN) preN postN, .func (.func fA) preA postA] 107)).alloc (.cells #[.int .i64 0, .slice none 0 0, .slice none 0 0] 73)).frozen? ⟨w.heap.size + 1, o, none⟩ = false := fun o => by go_simp
  have hs0 : ((w.alloc (.cells #[.int .i64 (L : Int), .int .i64 a0, .int .i64 b0, .bool l0, .func (.func fN) preN postN, .func (.func fA) preA postA] 107)).alloc (.cells #[.int .i64 0, .slice none 0 0, .slice none 0 0] 73)).heap.size = w.heap.size + 2 := by simp
  generalize (w.alloc (.cells #[.int .i64 (L : Int), .int .i64 a0, .int .i64 b0, .bool l0, .func (.func fN) preN postN, .func (.func fA) preA postA] 107)).alloc (.cells #[.int .i64 0, .slice none 0 0, .slice none 0 0] 73) = w0 at *
  have HR0 := hid (And.intro (And.intro r0c (And.intro r1c r2c)) r0f)
  have HS0 := hid hs0
  have HB1 := hid hB1
  clear r0c r1c r2c r0f hs0 hB1
  have hNM := NumMap.made (w0.alloc (.cells #[.int .i64 (L : Int), .slice none 0 0, .slice none 0 0] 73)) 103
  obtain ⟨w3, hput, hNM3, hgr3⟩ := hNM.store law_recent Try.underlying151 hk0 (fun c h => by simp at h) (by decide) 0 (by unfold I64; omega)
  have hsz1 : (w0.alloc (.cells #[.int .i64 (L : Int), .slice none 0 0, .slice none 0 0] 73)).heap.size = w0.heap.size + 1 := by simp
  rw [hsz1] at hput hNM3 hgr3
  have HO := hid (OutS.init (enc := VR) (cl := clR) (L := L) (s0 := (a0, b0, l0)) (sz := 3) hgr3 hNM3 rfl (by decide))
  have hmm := @run_makeMap Try.prog
  have hk9 := hgr3.size
  have hlt : w.heap.size < w0.heap.size := by have := HS0.out; omega
  have hBx : Below w0.heap.size w0 ((w0.alloc (.cells #[.int .i64 (L : Int), .slice none 0 0, .slice none 0 0] 73)).alloc (.map #[] 0)) := ((Below.refl _ _).alloc (Nat.le_refl _) _).alloc (by simp) _
  have hBy : Below w0.heap.size w0 w3 := hBx.grown hgr3 (by simp; omega) (fun k hk => by cases hk; omega)
  have e1 := (hBy.cell (cell_lt b1c)).trans b1c
  have e2 := (hBy.cell (cell_lt b2c)).trans b2c
  have e3 := (hBy.cell (cell_lt b3c)).trans b3c
  clear hNM hNM3 hgr3 hsz1 hBx hBy hk9
  go_wp2
  have HRul := hid (show ∀ w', Below w0.heap.size w0 w' → w'.cell? ⟨w.heap.size, 0, none⟩ = some (.int .i64 (L : Int)) ∧ w'.cell? ⟨w.heap.size, 4, none⟩ = some (.func (.func fN) preN postN) ∧ w'.cell? ⟨w.heap.size, 5, none⟩ = some (.func (.func fA) preA postA) from fun w' hb => ⟨(hb.cell (cell_lt b0c)).trans b0c, (hb.cell (cell_lt b4c)).trans b4c, (hb.cell (cell_lt b5c)).trans b5c⟩)
  clear e1 e2 e3 hput hmm b0c b1c b2c b3c b4c b5c hk0
  go_loopg [5, 6] M (fun gk v i wr => ∃ (k : Nat) (vN vA : Value) (rv : List Value), k + gk = M ∧ k ≤ (listTo L next acc (a0, b0, l0) k).1.length ∧ i = .int .i64 k ∧ Hid (∀ j, j < k → j < (listTo L next acc (a0, b0, l0) j).1.length) ∧ Hid (OutS VR clR w0 wr (w0.heap.size + 2) w0.heap.size (w0.heap.size + 1) 103 3 L (listTo L next acc (a0, b0, l0) k).1 (listTo L next acc (a0, b0, l0) k).1 (listTo L next acc (a0, b0, l0) k).2.1 (listTo L next acc (a0, b0, l0) k).2.2 v vN vA rv))
  case atStart => exact ⟨0, _, _, _, by omega, Nat.zero_le _, rfl, (fun j hj => by omega), HO.out⟩
  case round =>
    clear HO
    obtain ⟨k, vN, vA, rv, hkM, hk, rfl, HJ, HO⟩ := hrel
    obtain ⟨hnd, hpd, hpos⟩ := HLo.out k
    have hlen := HM.out _ hnd hpd
    obtain ⟨hr1, hr2⟩ := listTo_len L next acc (a0, b0, l0) k
    obtain ⟨gS, cS, hvS, hgS, hgS2⟩ := HO.out.mem.S.form hpos
    subst hvS
    obtain ⟨q0, q4, q5⟩ := HRul.out wr HO.out.mem.bel
    have HSt := hid (show listTo L next acc (a0, b0, l0) (k + 1) = ((rowTo next ((listTo L next acc (a0, b0, l0) k).1[k]?.getD (a0, b0, l0)) (listTo L next acc (a0, b0, l0) k).1 L).1, (listTo L next acc (a0, b0, l0) k).2.1 ++ [(rowTo next ((listTo L next acc (a0, b0, l0) k).1[k]?.getD (a0, b0, l0)) (listTo L next acc (a0, b0, l0) k).1 L).2], (listTo L next acc (a0, b0, l0) k).2.2 ++ [acc ((listTo L next acc (a0, b0, l0) k).1[k]?.getD (a0, b0, l0))]) from rfl)
    have HJn := hid (show k < (listTo L next acc (a0, b0, l0) k).1.length → ∀ j, j < k + 1 → j < (listTo L next acc (a0, b0, l0) j).1.length from fun hh j hj => by
      by_cases e : j = k
      · subst e; exact hh
      · exact HJ.out j (by omega))
    have HFu := hid (show k = (listTo L next acc (a0, b0, l0) k).1.length → Full L next acc (a0, b0, l0) k from fun hh => ⟨hh, HJ.out⟩)
    have HRn := hid (rowTo_rows L next acc (a0, b0, l0) k)
    have HEn := hid (listTo_ent L next acc (a0, b0, l0) k)
    generalize hT : listTo L next acc (a0, b0, l0) k = T at *
    have HT := hid hT
    clear hT HJ
    obtain ⟨sts, rows, accs⟩ := T
    dsimp only at hk hnd hpd hpos hlen hr1 hr2 HO HSt HJn HFu HRn HEn
    by_cases hlt3 : k < sts.length
    · obtain ⟨gk', rfl⟩ : ∃ f, gk = f + 1 := ⟨gk - 1, by omega⟩
      have hsm : sts[k]? = some (sts[k]?.getD (a0, b0, l0)) := by rw [List.getElem?_eq_getElem hlt3]; rfl
      have hsP : Pd (sts[k]?.getD (a0, b0, l0)) := hpd _ (List.mem_of_getElem? hsm)
      generalize hsd : sts[k]?.getD (a0, b0, l0) = s at *
      clear hsd
      obtain ⟨sa, sb, sc⟩ := s
      have HRo := hid (fun n (hn : n ≤ L) => rowTo_ok next (sa, sb, sc) sts (Pd := Pd) L (fun c hc => HCl.out _ c hsP hc) hnd hpd n hn)
      have HRl := hid (fun n => rowTo_len next (sa, sb, sc) sts n)
      have HSm := hid hsm
      have HSP := hid hsP
      have hmk := make_intsM L (by omega)
      have hBw := HO.out.mem.hBw
      have hA : Below wr.heap.size wr (wr.alloc (.cells (List.replicate L (.int .i64 0)).toArray 3)) := (Below.refl _ _).alloc (Nat.le_refl _) _
      have HO1 := hid (HO.out.below hA)
      have HR1 := hid (RowP.made HO.out.mem L (by omega))
      have hk0 : (0 : Int) ≤ (k : Int) := by omega
      have hk1 : (k : Int) < (sts.length : Int) := by omega
      have HJ2 := hid (HJn.out hlt3)
      clear hnd hpd hsm hsP hA HO HFu hpos
      go_wp2
      clear hmk q0
      generalize hgre : wr.heap.size = gr at *
      clear hgre
      go_loopg [5, 33] L (fun g2 v i wr => ∃ (n : Nat), n + g2 = L ∧ i = .int .i64 n ∧ Hid (OutS VR clR w0 wr (w0.heap.size + 2) w0.heap.size (w0.heap.size + 1) 103 3 L (rowTo next (sa, sb, sc) sts n).1 (rowTo next (sa, sb, sc) sts n).1 rows accs v vN vA rv) ∧ Hid (RowP wr (w0.heap.size + 2) L gr (rowPad L (rowTo next (sa, sb, sc) sts n).2) rows v vN vA rv))
      case atStart => exact ⟨0, by omega, rfl, HO1.out, HR1.out⟩
      case round =>
        clear HO1 HR1
        obtain ⟨n, hn, rfl, HO, HR⟩ := hrel
        obtain ⟨hnd, hpd, hpre⟩ := HRo.out n (by omega)
        have hlen1 := HM.out _ hnd hpd
        have hrl := HRl.out n
        have HSo := hid (rowTo_had next (sa, sb, sc) sts n)
        have HSw := hid (rowTo_new next (sa, sb, sc) sts n)
        generalize hU : rowTo next (sa, sb, sc) sts n = U at *
        have HU := hid hU
        clear hU
        obtain ⟨st1, row1⟩ := U
        dsimp only at hnd hpd hpre hlen1 hrl HO HR HSo HSw
        have hk1s : st1[k]? = some (sa, sb, sc) := by
          obtain ⟨tl, rfl⟩ := hpre
          rw [List.getElem?_append_left hlt3]; exact HSm.out
        have hk1l : k < st1.length := (List.getElem?_eq_some_iff.1 hk1s).1
        obtain ⟨gT, cT, hvT, hgT, hgT2⟩ := HO.out.mem.S.form (by omega)
        subst hvT
        have hS := HO.out.mem.S
        obtain ⟨d0, d1, d2⟩ := flatR_at st1 k (sa, sb, sc) hk1s
        have c0 : wr.cell? ⟨gT, k * 3, none⟩ = some (.int .i64 sa) := by rw [hS.cellAt _ (by omega)]; exact d0
        have c1 : wr.cell? ⟨gT, k * 3 + 1, none⟩ = some (.int .i64 sb) := by rw [hS.cellAt _ (by omega)]; exact d1
        have c2 : wr.cell? ⟨gT, k * 3 + 2, none⟩ = some (.bool sc) := by rw [hS.cellAt _ (by omega)]; exact d2
        obtain ⟨q0, q4, q5⟩ := HRul.out wr HO.out.mem.bel
        by_cases hnL : n < L
        · obtain ⟨g2', rfl⟩ : ∃ f, gk = f + 1 := ⟨gk - 1, by omega⟩
          have HPn := hid (HCl.out _ n HSP.out hnL)
          have hwB := HB1.out.trans (HO.out.mem.bel.mono HB1.out.size)
          have HNx := hid (fun w' (hb : Below wr.heap.size wr w') => HN.out w' (sa, sb, sc) n (hwB.trans (hb.mono hwB.size)) HSP.out hnL)
          generalize hsn : next (sa, sb, sc) n = sn at *
          have HSnE := hid hsn
          clear hsn
          obtain ⟨na, nb, nc⟩ := sn
          have HNx := hid (show ∀ w', Below wr.heap.size wr w' → Calls Try.prog fN (preN ++ (#[.agg #[.int .i64 sa, .int .i64 sb, .bool sc], .int .i64 (n : Int)] ++ postN)) w' (fun e w'' => Below w'.heap.size w' w'' ∧ e = .returned (.agg #[.int .i64 na, .int .i64 nb, .bool nc])) from HNx.out)
          have hr1 : Below wr.heap.size wr wr := Below.refl _ _
          have HKp := hid (fun w' (hb : Below wr.heap.size wr w') => (show w'.cell? ⟨w.heap.size, 4, none⟩ = some (.func (.func fN) preN postN) ∧ w'.cell? ⟨gT, k * 3, none⟩ = some (.int .i64 sa) ∧ w'.cell? ⟨gT, k * 3 + 1, none⟩ = some (.int .i64 sb) ∧ w'.cell? ⟨gT, k * 3 + 2, none⟩ = some (.bool sc) ∧ Below wr.heap.size wr w' from
            ⟨(hb.cell (cell_lt q4)).trans q4, (hb.cell (cell_lt c0)).trans c0, (hb.cell (cell_lt c1)).trans c1, (hb.cell (cell_lt c2)).trans c2, hb⟩))
          have hk1i : (k : Int) < (st1.length : Int) := by omega
          have hn0 : (0 : Int) ≤ (n : Int) := by omega
          have hn1 : (n : Int) < (L : Int) := by omega
          clear hS d0 d1 d2 hwB q0 q5
          go_upto_region 11 with (fail)
          go_cut [9] (fun s9 wx => ∃ g9 : Nat, s9 = .pointer (some ⟨g9, 0, none⟩) ∧ wr.heap.size ≤ g9 ∧ wx.cell? ⟨g9, 0, none⟩ = some (.int .i64 na) ∧ wx.cell? ⟨g9, 1, none⟩ = some (.int .i64 nb) ∧ wx.cell? ⟨g9, 2, none⟩ = some (.bool nc) ∧ Hid (Below wr.heap.size wr wx))
          case first =>
            refine wp_region_held_drew (S := (fun w' => w'.cell? ⟨w.heap.size, 4, none⟩ = some (.func (.func fN) preN postN) ∧ w'.cell? ⟨gT, k * 3, none⟩ = some (.int .i64 sa) ∧ w'.cell? ⟨gT, k * 3 + 1, none⟩ = some (.int .i64 sb) ∧ w'.cell? ⟨gT, k * 3 + 2, none⟩ = some (.bool sc) ∧ Below wr.heap.size wr w')) (by kernel_rfl) (HKp.out _ hr1.drew) (fun hHeld => ?_)
            refine take_d (i := 0) (d := some 36) (v := ?_) rfl rfl (by kernel_rfl) (by kernel_rfl) (by kernel_rfl) (fun _ _ _ h => h) (Or.inl ⟨by first | rfl | (simp [*, Region.wanted, yielded]), ?hyn1⟩) (by assumption) ?restn1
            case hyn1 => (intro w hSw; (try dsimp only at hSw); go_simp <;> with_reducible rfl)
            try simp only [Act.put, List.setIfInBounds_toArray, List.set_cons_zero, List.set_cons_succ]
            refine take_d (i := 1) (d := some 37) (v := ?_) rfl rfl (by kernel_rfl) (by kernel_rfl) (by kernel_rfl) (fun _ _ _ h => h) (Or.inl ⟨by first | rfl | (simp [*, Region.wanted, yielded]), ?hyn2⟩) (by assumption) ?restn2
            case hyn2 => (intro w hSw; (try dsimp only at hSw); go_simp <;> with_reducible rfl)
            try simp only [Act.put, List.setIfInBounds_toArray, List.set_cons_zero, List.set_cons_succ]
            refine take_d (i := 2) (d := some 38) (v := ?_) rfl rfl (by kernel_rfl) (by kernel_rfl) (by kernel_rfl) (fun _ _ _ h => h) (Or.inl ⟨by first | rfl | (simp [*, Region.wanted, yielded]), ?hyn3⟩) (by assumption) ?restn3
            case hyn3 => (intro w hSw; (try dsimp only at hSw); go_simp <;> with_reducible rfl)
            try simp only [Act.put, List.setIfInBounds_toArray, List.set_cons_zero, List.set_cons_succ]
            refine take_d (i := 3) (d := some 39) (v := ?_) rfl rfl (by kernel_rfl) (by kernel_rfl) (by kernel_rfl) (fun _ _ _ h => h) (Or.inl ⟨by first | rfl | (simp [*, Region.wanted, yielded]), ?hyn4⟩) (by assumption) ?restn4
            case hyn4 => (intro w hSw; (try dsimp only at hSw); go_simp <;> with_reducible rfl)
            try simp only [Act.put, List.setIfInBounds_toArray, List.set_cons_zero, List.set_cons_succ]
            refine take_d (i := 4) (d := some 40) (v := ?_) rfl rfl (by kernel_rfl) (by kernel_rfl) (by kernel_rfl) (fun _ _ _ h => h) (Or.inl ⟨by first | rfl | (simp [*, Region.wanted, yielded]), ?hyn5⟩) (by assumption) ?restn5
            case hyn5 => (intro w hSw; (try dsimp only at hSw); go_simp <;> with_reducible rfl)
            try simp only [Act.put, List.setIfInBounds_toArray, List.set_cons_zero, List.set_cons_succ]
            refine take_d (i := 5) (d := some 41) (v := ?_) rfl rfl (by kernel_rfl) (by kernel_rfl) (by kernel_rfl) (fun _ _ _ h => h) (Or.inl ⟨by first | rfl | (simp [*, Region.wanted, yielded]), ?hyn6⟩) (by assumption) ?restn6
            case hyn6 => (intro w hSw; (try dsimp only at hSw); go_simp <;> with_reducible rfl)
            try simp only [Act.put, List.setIfInBounds_toArray, List.set_cons_zero, List.set_cons_succ]
            refine take_d (i := 6) (d := some 42) (v := ?_) rfl rfl (by kernel_rfl) (by kernel_rfl) (by kernel_rfl) (fun _ _ _ h => h) (Or.inl ⟨by first | rfl | (simp [*, Region.wanted, yielded]), ?hyn7⟩) (by assumption) ?restn7
            case hyn7 => (intro w hSw; (try dsimp only at hSw); go_simp <;> with_reducible rfl)
            try simp only [Act.put, List.setIfInBounds_toArray, List.set_cons_zero, List.set_cons_succ]
            refine wpAnyH_ready (rs := [7, 8]) (by kernel_rfl) (by simp) ?_
            refine AllReadyH.cons (o := _) rfl (fun K hK => ?_) (AllReadyH.cons (o := _) rfl (fun K hK => ?_) AllReadyH.nil)
            · go_simp
              refine (HNx.out _ ?_).mono ?_
              · repeat (first | exact hr1 | apply Below.drew | (refine Below.alloc ?_ (by first | exact Below.size (by assumption) | omega | (simp; done) | (simp; omega)) _))
              rintro e7 w7 ⟨hb7, rfl⟩
              have p7 : Below wr.heap.size wr w7 := Below.trans (by repeat (first | exact hr1 | apply Below.drew | (refine Below.alloc ?_ (by first | exact Below.size (by assumption) | omega | (simp; done) | (simp; omega)) _))) (hb7.mono (by first | (simp; done) | (simp; omega)))
              go_wp2_with fail
              refine hK.out _ _ (HKp.out _ p7) (fun hHeld => ?_)
              clear hK K
              try simp only [Act.put, List.setIfInBounds_toArray, List.set_cons_zero, List.set_cons_succ]
              refine wpAnyH_ready (rs := [8]) (by kernel_rfl) (by simp) ?_
              refine AllReadyH.cons (o := _) rfl (fun K hK => ?_) AllReadyH.nil
              go_simp
              go_wp2_with fail
              refine hK.out _ _ (HKp.out _ (by repeat (first | exact hr1 | exact p7 | apply Below.drew | (refine Below.alloc ?_ (by first | exact Below.size (by assumption) | omega | (simp; done) | (simp; omega)) _) | (refine Below.setCell ?_ (by first | omega | (simp; done) | (simp; omega)) _)))) (fun hHeld => ?_)
              clear hK K
              try simp only [Act.put, List.setIfInBounds_toArray, List.set_cons_zero, List.set_cons_succ]
              refine wpAnyH_ready (rs := [9]) (by kernel_rfl) (by simp) ?_
              refine AllReadyH.cons (o := _) rfl (fun K hK => ?_) AllReadyH.nil
              go_simp
              go_wp2_with fail
              refine hK.out _ _ (HKp.out _ (by repeat (first | exact hr1 | exact p7 | apply Below.drew | (refine Below.alloc ?_ (by first | exact Below.size (by assumption) | omega | (simp; done) | (simp; omega)) _) | (refine Below.setCell ?_ (by first | omega | (simp; done) | (simp; omega)) _)))) (fun hHeld => ?_)
              clear hK K
              try simp only [Act.put, List.setIfInBounds_toArray, List.set_cons_zero, List.set_cons_succ]
              refine wpAnyH_done (by kernel_rfl) ?_ _
              go_simp
              go_wp2_with fail
              go_meet
              case rel => exact ⟨w7.heap.size, rfl, p7.size, by go_simp, by go_simp, by go_simp, p7.alloc p7.size _⟩
            · go_simp
              go_wp2_with fail
              refine hK.out _ _ (HKp.out _ (by repeat (first | exact hr1 | exact p7 | apply Below.drew | (refine Below.alloc ?_ (by first | exact Below.size (by assumption) | omega | (simp; done) | (simp; omega)) _) | (refine Below.setCell ?_ (by first | omega | (simp; done) | (simp; omega)) _)))) (fun hHeld => ?_)
              clear hK K
              try simp only [Act.put, List.setIfInBounds_toArray, List.set_cons_zero, List.set_cons_succ]
              refine wpAnyH_ready (rs := [7]) (by kernel_rfl) (by simp) ?_
              refine AllReadyH.cons (o := _) rfl (fun K hK => ?_) AllReadyH.nil
              go_simp
              refine (HNx.out _ ?_).mono ?_
              · repeat (first | exact hr1 | apply Below.drew | (refine Below.alloc ?_ (by first | exact Below.size (by assumption) | omega | (simp; done) | (simp; omega)) _))
              rintro e7 w7 ⟨hb7, rfl⟩
              have p7 : Below wr.heap.size wr w7 := Below.trans (by repeat (first | exact hr1 | apply Below.drew | (refine Below.alloc ?_ (by first | exact Below.size (by assumption) | omega | (simp; done) | (simp; omega)) _))) (hb7.mono (by first | (simp; done) | (simp; omega)))
              have x0 : w7.cell? ⟨wr.heap.size, 0, none⟩ = some (.int .i64 0) := (hb7.cell (by simp)).trans (by go_simp)
              have x1 : w7.cell? ⟨wr.heap.size, 1, none⟩ = some (.int .i64 0) := (hb7.cell (by simp)).trans (by go_simp)
              have x2 : w7.cell? ⟨wr.heap.size, 2, none⟩ = some (.bool false) := (hb7.cell (by simp)).trans (by go_simp)
              have y0 : w7.frozen? ⟨wr.heap.size, 0, none⟩ = false := (hb7.frozen (by simp)).trans (by go_simp)
              have y1 : w7.frozen? ⟨wr.heap.size, 1, none⟩ = false := (hb7.frozen (by simp)).trans (by go_simp)
              have y2 : w7.frozen? ⟨wr.heap.size, 2, none⟩ = false := (hb7.frozen (by simp)).trans (by go_simp)
              go_wp2_with fail
              refine hK.out _ _ (HKp.out _ p7) (fun hHeld => ?_)
              clear hK K
              try simp only [Act.put, List.setIfInBounds_toArray, List.set_cons_zero, List.set_cons_succ]
              refine wpAnyH_ready (rs := [9]) (by kernel_rfl) (by simp) ?_
              refine AllReadyH.cons (o := _) rfl (fun K hK => ?_) AllReadyH.nil
              go_simp
              go_wp2_with fail
              refine hK.out _ _ (HKp.out _ (by repeat (first | exact hr1 | exact p7 | apply Below.drew | (refine Below.alloc ?_ (by first | exact Below.size (by assumption) | omega | (simp; done) | (simp; omega)) _) | (refine Below.setCell ?_ (by first | omega | (simp; done) | (simp; omega)) _)))) (fun hHeld => ?_)
              clear hK K
              try simp only [Act.put, List.setIfInBounds_toArray, List.set_cons_zero, List.set_cons_succ]
              refine wpAnyH_done (by kernel_rfl) ?_ _
              go_simp
              go_wp2_with fail
              go_meet
              case rel => exact ⟨wr.heap.size, rfl, Nat.le_refl _, by go_simp, by go_simp, by go_simp, ((p7.setCell (Nat.le_refl _) _).setCell (Nat.le_refl _) _).setCell (Nat.le_refl _) _⟩
          case rest =>
            obtain ⟨g9, rfl, hg9, z0, z1, z2, HBc⟩ := hcut
            have HO2 := hid (HO.out.below HBc.out)
            have HR2 := hid (HR.out.below HBc.out)
            obtain ⟨hIa, hIb⟩ := HI.out _ HPn.out
            obtain ⟨kl, hkey⟩ := key_recent na nb nc hIa hIb
            have hgr9 := HR2.out.lt
            have hd0 : wc.cell? ⟨gr, n, none⟩ = some (.int .i64 0) := by
              rw [HR2.out.own.cellAt _ (by omega), List.getElem?_map]
              unfold rowPad
              rw [List.getElem?_append_right (by omega), hrl, Nat.sub_self, List.getElem?_replicate, if_pos (by omega)]
              rfl
            have hf0 : wc.frozen? ⟨gr, n, none⟩ = false := HR2.out.own.frozenAt n
            clear c0 c1 c2 q4 HKp HNx hr1 HO HR
            by_cases hin : (na, nb, nc) ∈ st1
            · obtain ⟨j, hj1, hj2, hsr⟩ := HSo.out hin
              have HSr := hid hsr
              clear hsr
              have hmem : (VR (na, nb, nc), (j : Int)) ∈ numbL VR st1 := (numbL_mem VR VR_inj st1 _ _).2 ⟨j, rfl, hj2⟩
              obtain ⟨hl1, hl2⟩ := HO2.out.map.lookYes law_recent Try.underlying151 hkey (j : Int) hmem
              have HR3 := hid (HR2.out.set n (j : Int))
              have HO3 := hid (HO2.out.setRow HR2.out n (.int .i64 (j : Int)))
              have HPd := hid (rowPad_set L row1 (j : Int) (by omega))
              rw [hrl] at HPd
              clear hmem hin hj2
              go_wp2
              go_roundg g2'
              case rel => exact ⟨n + 1, by omega, by go_num, by rw [HSr.out]; exact HO3.out, by rw [HSr.out]; show Hid (RowP _ _ _ _ (rowPad L (row1 ++ [(j : Int)])) _ _ _ _ _); rw [← HPd.out]; exact HR3⟩
              all_goals omega
            · have HSr := hid (HSw.out hin)
              have hnol : ∀ c, (VR (na, nb, nc), c) ∉ numbL VR st1 := fun c hc => by
                obtain ⟨i, _, hi⟩ := (numbL_mem VR VR_inj st1 _ _).1 hc
                exact hin (List.mem_of_getElem? hi)
              obtain ⟨v9, hl1⟩ := HO2.out.map.lookNo law_recent Try.underlying151 hkey hnol
              obtain ⟨w5, hput, hNM5, hgr5⟩ := HO2.out.map.store law_recent Try.underlying151 hkey hnol (by rw [numbL_len]; unfold maxLen; omega) (st1.length : Int) (by unfold I64; omega)
              have hNM5' : NumMap w5 103 (w0.heap.size + 1) (numbL VR (st1 ++ [(na, nb, nc)])) := by rw [numbL_snoc]; exact hNM5
              have HO5 := hid (HO2.out.put hgr5 hNM5')
              have hgmB := HO2.out.lm.2
              have HR5 := hid (HR2.out.grown hgr5 (fun hh => by have := Option.some.inj hh; omega))
              have hne9 : w0.heap.size + 1 ≠ g9 := by omega
              have y0 := (grown_cell hgr5 (p := ⟨g9, 0, none⟩) (cell_lt z0) (fun hh => hne9 (Option.some.inj hh))).trans z0
              have y1 := (grown_cell hgr5 (p := ⟨g9, 1, none⟩) (cell_lt z1) (fun hh => hne9 (Option.some.inj hh))).trans z1
              have y2 := (grown_cell hgr5 (p := ⟨g9, 2, none⟩) (cell_lt z2) (fun hh => hne9 (Option.some.inj hh))).trans z2
              have hlt5 : g9 < w5.heap.size := by have := cell_lt y0; exact this
              have hBw5 := HO5.out.mem.hBw
              have hA5 : Below w5.heap.size w5 (w5.alloc (.cells #[.int .i64 na, .int .i64 nb, .bool nc] 103)) := (Below.refl _ _).alloc (Nat.le_refl _) _
              have HO6 := hid (HO5.out.below hA5)
              have HR6 := hid (HR5.out.below hA5)
              have hS6 := HO6.out.mem.S
              have HEk := hid hkey
              clear hNM5 hgr5 hNM5' hA5 hnol hin hd0 hf0
              go_wp2_with (at_builtin; refine wpList_append_lies _ rfl _ _ 152 rfl (w0.heap.size + 2) 103 i0 (.agg #[.int .i64 0, .int .i64 0, .bool false]) 3 24 Try.underlying152 hinf hz0 hz1 hz2 rfl (by decide) _ st1.length (st1.flatMap clR) rfl hS6 ⟨w5.heap.size, 0, none⟩ 1 1 [.int .i64 na, .int .i64 nb, .bool nc] rfl rfl (World.news_of_block (cs := #[.int .i64 na, .int .i64 nb, .bool nc]) (t := 103) (fr := (0, 0)) (heap_alloc_new w5 _)) (by simp [Value.oneCell']) (by decide) (by unfold maxLen; omega) (by omega) (by simp; omega) _ rfl ?_)
              intro gU cU w6 hown6 hgr6 hat6 hlt6
              have hsz9 : (w5.alloc (.cells #[.int .i64 na, .int .i64 nb, .bool nc] 103)).heap.size = w5.heap.size + 1 := by simp
              have hloc := lies_loc (n := st1.length + 1) (c := cU) hat6
              rw [← hsz9] at hloc
              clear hsz9
              have HO7 := hid (HO6.out.appS (t := (na, nb, nc)) hown6 hgr6 hloc (by simp [Value.ownBlock]))
              have HR7 := hid (HR6.out.appS hgr6 hloc)
              have hneT : (Value.slice (some ⟨gT, 0, none⟩) st1.length cT).ownBlock ≠ some g9 := fun hh => by
                have := Option.some.inj hh
                dsimp only at this
                omega
              have y0a : (w5.alloc (.cells #[.int .i64 na, .int .i64 nb, .bool nc] 103)).cell? ⟨g9, 0, none⟩ = some (.int .i64 na) := by go_simp
              have y1a : (w5.alloc (.cells #[.int .i64 na, .int .i64 nb, .bool nc] 103)).cell? ⟨g9, 1, none⟩ = some (.int .i64 nb) := by go_simp
              have y2a : (w5.alloc (.cells #[.int .i64 na, .int .i64 nb, .bool nc] 103)).cell? ⟨g9, 2, none⟩ = some (.bool nc) := by go_simp
              have x0 := (grown_cell hgr6 (p := ⟨g9, 0, none⟩) (cell_lt y0a) hneT).trans y0a
              have x1 := (grown_cell hgr6 (p := ⟨g9, 1, none⟩) (cell_lt y1a) hneT).trans y1a
              have x2 := (grown_cell hgr6 (p := ⟨g9, 2, none⟩) (cell_lt y2a) hneT).trans y2a
              have hmem : (VR (na, nb, nc), (st1.length : Int)) ∈ numbL VR (st1 ++ [(na, nb, nc)]) := (numbL_mem VR VR_inj _ _ _).2 ⟨st1.length, rfl, by rw [List.getElem?_append_right (Nat.le_refl _), Nat.sub_self]; rfl⟩
              obtain ⟨_, hl2⟩ := HO7.out.map.lookYes law_recent Try.underlying151 HEk.out (st1.length : Int) hmem
              have hd1 : w6.cell? ⟨gr, n, none⟩ = some (.int .i64 0) := by
                rw [HR7.out.own.cellAt _ (by omega), List.getElem?_map]
                unfold rowPad
                rw [List.getElem?_append_right (by omega), hrl, Nat.sub_self, List.getElem?_replicate, if_pos (by omega)]
                rfl
              have hf1 : w6.frozen? ⟨gr, n, none⟩ = false := HR7.out.own.frozenAt n
              have HR8 := hid (HR7.out.set n (st1.length : Int))
              have HO8 := hid (HO7.out.setRow HR7.out n (.int .i64 (st1.length : Int)))
              have HPd := hid (rowPad_set L row1 (st1.length : Int) (by omega))
              rw [hrl] at HPd
              clear hown6 hgr6 hat6 hlt6 hloc hneT y0 y1 y2 y0a y1a y2a hmem hl1 hput hS6 z0 z1 z2
              go_wp2
              go_roundg g2'
              case rel => exact ⟨n + 1, by omega, by go_num, by rw [HSr.out]; exact HO8.out, by rw [HSr.out]; show Hid (RowP _ _ _ _ (rowPad L (row1 ++ [(st1.length : Int)])) _ _ _ _ _); rw [← HPd.out]; exact HR8⟩
              all_goals omega
        · obtain rfl : L = n := by omega
          rw [rowPad_full L row1 hrl] at HR
          obtain ⟨j0, hjnf, hy0, hy1, hy2⟩ := info_parts row_info
          obtain ⟨j3, hjnf3, hb0, hb1, hb2⟩ := info_parts boolM_info
          have hA : Below wr.heap.size wr (wr.alloc (.cells #[.slice (some ⟨gr, 0, none⟩) L L] 26)) := (Below.refl _ _).alloc (Nat.le_refl _) _
          have HO1 := hid (HO.out.below hA)
          have HR1 := hid (HR.out.below hA)
          have hN1 := HO1.out.mem.N
          have hBw1 := HO1.out.mem.hBw
          have hN0 := HO.out.c1
          have hSn : (Value.slice (some ⟨gT, 0, none⟩) st1.length cT).ownBlock ≠ none := by simp [Value.ownBlock]
          have hrw : (wr.alloc (.cells #[.slice (some ⟨gr, 0, none⟩) L L] 26)).ownsRow (w0.heap.size + 2) 3 1 (.slice (some ⟨gr, 0, none⟩) L L) row1.length (row1.map (Value.int .i64)) := by rw [hrl]; exact HR1.out.own
          clear hS c0 c1 c2 q0 q4 q5 hA
          go_wp2_with (at_builtin; refine wpList_append_lies _ rfl _ _ 22 rfl (w0.heap.size + 2) 26 j0 (.slice none 0 0) 1 24 Try.underlying22 hjnf hy0 hy1 hy2 rfl (by decide) vN rows.length rv rfl hN1 ⟨wr.heap.size, 0, none⟩ 1 1 [.slice (some ⟨gr, 0, none⟩) L L] rfl rfl (World.news_of_block (cs := #[.slice (some ⟨gr, 0, none⟩) L L]) (t := 26) (fr := (0, 0)) (heap_alloc_new wr _)) (by simp [Value.oneCell']) (by decide) (by unfold maxLen; omega) (by omega) (by simp; omega) _ rfl ?_)
          intro gU cU wN hownN hgrN hatN hltN
          have hsz9 : (wr.alloc (.cells #[.slice (some ⟨gr, 0, none⟩) L L] 26)).heap.size = wr.heap.size + 1 := by simp
          have hloc := lies_loc (n := rows.length + 1) (c := cU) hatN
          rw [← hsz9] at hloc
          clear hsz9
          rw [← hr1] at hownN
          have HO3 := hid (HO1.out.pushN hownN hgrN hloc hrw ⟨gr, L, by rw [hrl], HR1.out.free⟩ hSn)
          rw [hr1] at HO3
          obtain ⟨k1c, k1f⟩ := HO1.out.preN hgrN
          clear hownN hgrN hatN hltN hloc hrw hSn hN1 hN0 HR HR1 HO1 HO
          go_upto_region 19 with (fail)
          have HSt2 := hid (show listTo L next acc (a0, b0, l0) (k + 1) = (st1, rows ++ [row1], accs ++ [acc (sa, sb, sc)]) from by
            have := HSt.out
            rw [HU.out] at this
            exact this)
          generalize wN.setCell ⟨w0.heap.size, 1, none⟩ (.slice (some ⟨gU, 0, none⟩) (k + 1) cU) = wq at *
          obtain ⟨_, _, q5⟩ := HRul.out wq HO3.out.mem.bel
          have hS := HO3.out.mem.S
          have c0 : wq.cell? ⟨gT, k * 3, none⟩ = some (.int .i64 sa) := by rw [hS.cellAt _ (by omega)]; exact d0
          have c1 : wq.cell? ⟨gT, k * 3 + 1, none⟩ = some (.int .i64 sb) := by rw [hS.cellAt _ (by omega)]; exact d1
          have c2 : wq.cell? ⟨gT, k * 3 + 2, none⟩ = some (.bool sc) := by rw [hS.cellAt _ (by omega)]; exact d2
          have c2v := HO3.out.c2
          have f2v := HO3.out.f2
          have hBwq := HO3.out.mem.hBw
          have HsaT := hid (show vA.ownBlock ≠ some gT from fun hh => HO3.out.mem.SA (by rw [hh]; rfl))
          have hlgq := HO3.out.lg
          have HlA := hid ((HO3.out.mem.low w.heap.size (by omega)).2.2.1)
          have hr0 : Below wq.heap.size wq wq := Below.refl _ _
          have hneT : w0.heap.size ≠ gT := by omega
          have hneW : w0.heap.size ≠ w.heap.size := by omega
          have HKp := hid (fun w' (hb : Below wq.heap.size wq w') => (show w'.cell? ⟨w.heap.size, 5, none⟩ = some (.func (.func fA) preA postA) ∧ w'.cell? ⟨gT, k * 3, none⟩ = some (.int .i64 sa) ∧ w'.cell? ⟨gT, k * 3 + 1, none⟩ = some (.int .i64 sb) ∧ w'.cell? ⟨gT, k * 3 + 2, none⟩ = some (.bool sc) from
            ⟨(hb.cell (cell_lt q5)).trans q5, (hb.cell (cell_lt c0)).trans c0, (hb.cell (cell_lt c1)).trans c1, (hb.cell (cell_lt c2)).trans c2⟩))
          have HKg := hid (fun wx w' (hb : Below wq.heap.size wq wx) (hg : wx.grownBy w' vA.ownBlock) => (show w'.cell? ⟨w.heap.size, 5, none⟩ = some (.func (.func fA) preA postA) ∧ w'.cell? ⟨gT, k * 3, none⟩ = some (.int .i64 sa) ∧ w'.cell? ⟨gT, k * 3 + 1, none⟩ = some (.int .i64 sb) ∧ w'.cell? ⟨gT, k * 3 + 2, none⟩ = some (.bool sc) from by
            obtain ⟨g1, g2, g3, g4⟩ := HKp.out wx hb
            exact ⟨(grown_cell hg (cell_lt g1) HlA.out).trans g1, (grown_cell hg (cell_lt g2) HsaT.out).trans g2, (grown_cell hg (cell_lt g3) HsaT.out).trans g3, (grown_cell hg (cell_lt g4) HsaT.out).trans g4⟩))
          have HKs := hid (fun wx w' u (hb : Below wq.heap.size wq wx) (hg : wx.grownBy w' vA.ownBlock) => (show (w'.setCell ⟨w0.heap.size, 2, none⟩ u).cell? ⟨w.heap.size, 5, none⟩ = some (.func (.func fA) preA postA) ∧ (w'.setCell ⟨w0.heap.size, 2, none⟩ u).cell? ⟨gT, k * 3, none⟩ = some (.int .i64 sa) ∧ (w'.setCell ⟨w0.heap.size, 2, none⟩ u).cell? ⟨gT, k * 3 + 1, none⟩ = some (.int .i64 sb) ∧ (w'.setCell ⟨w0.heap.size, 2, none⟩ u).cell? ⟨gT, k * 3 + 2, none⟩ = some (.bool sc) from by
            obtain ⟨g1, g2, g3, g4⟩ := HKg.out wx w' hb hg
            exact ⟨by rw [World.cell?_setCell_other _ _ _ _ (by first | (simp; done) | (simp; omega))]; exact g1, by rw [World.cell?_setCell_other _ _ _ _ (by first | (simp; done) | (simp; omega))]; exact g2, by rw [World.cell?_setCell_other _ _ _ _ (by first | (simp; done) | (simp; omega))]; exact g3, by rw [World.cell?_setCell_other _ _ _ _ (by first | (simp; done) | (simp; omega))]; exact g4⟩))
          have hwB := HB1.out.trans (HO3.out.mem.bel.mono HB1.out.size)
          have HAc := hid (show ∀ w', Below wq.heap.size wq w' → Calls Try.prog fA (preA.push (.agg #[.int .i64 sa, .int .i64 sb, .bool sc]) ++ postA) w' (fun e w'' => Below w'.heap.size w' w'' ∧ e = .returned (.bool (acc (sa, sb, sc)))) from fun w' hb => by
            have h9 := HA.out w' (sa, sb, sc) (hwB.trans (hb.mono hwB.size)) HSP.out
            have he : preA ++ (#[VR (sa, sb, sc)] ++ postA) = preA.push (.agg #[.int .i64 sa, .int .i64 sb, .bool sc]) ++ postA := by simp [VR]
            rw [he] at h9
            exact h9)
          have hk1i : (k : Int) < (st1.length : Int) := by omega
          have hacl : accs.length ≤ 5000 := by omega
          generalize acc (sa, sb, sc) = ba at *
          have HR12 := hid (And.intro hr1 hr2)
          clear hr1 hr2 k1c k1f hS d0 d1 d2 hwB
          refine wp_region_held_drew (S := (fun w' => w'.cell? ⟨w.heap.size, 5, none⟩ = some (.func (.func fA) preA postA) ∧ w'.cell? ⟨gT, k * 3, none⟩ = some (.int .i64 sa) ∧ w'.cell? ⟨gT, k * 3 + 1, none⟩ = some (.int .i64 sb) ∧ w'.cell? ⟨gT, k * 3 + 2, none⟩ = some (.bool sc))) (by kernel_rfl) (HKp.out _ hr0.drew) (fun hHeld => ?_)
          refine take_d (i := 0) (d := some 73) (v := ?_) rfl rfl (by kernel_rfl) (by kernel_rfl) (by kernel_rfl) (fun _ _ _ h => h) (Or.inl ⟨by first | rfl | (simp [*, Region.wanted, yielded]), ?hym1⟩) (by assumption) ?restm1
          case hym1 => (intro w hSw; (try dsimp only at hSw); go_simp <;> with_reducible rfl)
          try simp only [Act.put, List.setIfInBounds_toArray, List.set_cons_zero, List.set_cons_succ]
          refine take_d (i := 2) (d := some 75) (v := ?_) rfl rfl (by kernel_rfl) (by kernel_rfl) (by kernel_rfl) (fun _ _ _ h => h) (Or.inl ⟨by first | rfl | (simp [*, Region.wanted, yielded]), ?hym2⟩) (by assumption) ?restm2
          case hym2 => (intro w hSw; (try dsimp only at hSw); go_simp <;> with_reducible rfl)
          try simp only [Act.put, List.setIfInBounds_toArray, List.set_cons_zero, List.set_cons_succ]
          refine take_d (i := 3) (d := some 76) (v := ?_) rfl rfl (by kernel_rfl) (by kernel_rfl) (by kernel_rfl) (fun _ _ _ h => h) (Or.inl ⟨by first | rfl | (simp [*, Region.wanted, yielded]), ?hym3⟩) (by assumption) ?restm3
          case hym3 => (intro w hSw; (try dsimp only at hSw); go_simp <;> with_reducible rfl)
          try simp only [Act.put, List.setIfInBounds_toArray, List.set_cons_zero, List.set_cons_succ]
          refine take_d (i := 4) (d := some 77) (v := ?_) rfl rfl (by kernel_rfl) (by kernel_rfl) (by kernel_rfl) (fun _ _ _ h => h) (Or.inl ⟨by first | rfl | (simp [*, Region.wanted, yielded]), ?hym4⟩) (by assumption) ?restm4
          case hym4 => (intro w hSw; (try dsimp only at hSw); go_simp <;> with_reducible rfl)
          try simp only [Act.put, List.setIfInBounds_toArray, List.set_cons_zero, List.set_cons_succ]
          refine take_d (i := 5) (d := some 78) (v := ?_) rfl rfl (by kernel_rfl) (by kernel_rfl) (by kernel_rfl) (fun _ _ _ h => h) (Or.inl ⟨by first | rfl | (simp [*, Region.wanted, yielded]), ?hym5⟩) (by assumption) ?restm5
          case hym5 => (intro w hSw; (try dsimp only at hSw); go_simp <;> with_reducible rfl)
          try simp only [Act.put, List.setIfInBounds_toArray, List.set_cons_zero, List.set_cons_succ]
          refine take_d (i := 6) (d := some 79) (v := ?_) rfl rfl (by kernel_rfl) (by kernel_rfl) (by kernel_rfl) (fun _ _ _ h => h) (Or.inl ⟨by first | rfl | (simp [*, Region.wanted, yielded]), ?hym6⟩) (by assumption) ?restm6
          case hym6 => (intro w hSw; (try dsimp only at hSw); go_simp <;> with_reducible rfl)
          try simp only [Act.put, List.setIfInBounds_toArray, List.set_cons_zero, List.set_cons_succ]
          refine take_d (i := 7) (d := some 80) (v := ?_) rfl rfl (by kernel_rfl) (by kernel_rfl) (by kernel_rfl) (fun _ _ _ h => h) (Or.inl ⟨by first | rfl | (simp [*, Region.wanted, yielded]), ?hym7⟩) (by assumption) ?restm7
          case hym7 => (intro w hSw; (try dsimp only at hSw); go_simp <;> with_reducible rfl)
          try simp only [Act.put, List.setIfInBounds_toArray, List.set_cons_zero, List.set_cons_succ]
          refine wpAnyH_ready (rs := [1, 8]) (by kernel_rfl) (by simp) ?_
          refine AllReadyH.cons (o := _) rfl (fun K hK => ?_) (AllReadyH.cons (o := _) rfl (fun K hK => ?_) AllReadyH.nil)
          · go_simp
            go_wp2_with fail
            refine hK.out _ _ (HKp.out _ (by repeat (first | exact hr0 | exact p8 | apply Below.drew | (refine Below.alloc ?_ (by first | exact Below.size (by assumption) | omega | (simp; done) | (simp; omega)) _)))) (fun hHeld => ?_)
            clear hK K
            try simp only [Act.put, List.setIfInBounds_toArray, List.set_cons_zero, List.set_cons_succ]
            refine wpAnyH_ready (rs := [8]) (by kernel_rfl) (by simp) ?_
            refine AllReadyH.cons (o := _) rfl (fun K hK => ?_) AllReadyH.nil
            go_simp
            refine (HAc.out _ ?_).mono ?_
            · repeat (first | exact hr0 | exact p8 | apply Below.drew | (refine Below.alloc ?_ (by first | exact Below.size (by assumption) | omega | (simp; done) | (simp; omega)) _))
            rintro e8 w8 ⟨hb8, rfl⟩
            have p8 : Below wq.heap.size wq w8 := Below.trans (by repeat (first | exact hr0 | apply Below.drew | (refine Below.alloc ?_ (by first | exact Below.size (by assumption) | omega | (simp; done) | (simp; omega)) _))) (hb8.mono (by first | (simp; done) | (simp; omega)))
            have x8 : w8.cell? ⟨w0.heap.size, 2, none⟩ = some vA := (p8.cell (cell_lt c2v)).trans c2v
            have l8 : w0.heap.size < w8.heap.size := cell_lt x8
            go_wp2_with fail
            refine hK.out _ _ (HKp.out _ p8) (fun hHeld => ?_)
            clear hK K
            try simp only [Act.put, List.setIfInBounds_toArray, List.set_cons_zero, List.set_cons_succ]
            refine wpAnyH_ready (rs := [9]) (by kernel_rfl) (by simp) ?_
            refine AllReadyH.cons (o := _) rfl (fun K hK => ?_) AllReadyH.nil
            go_simp
            go_wp2_with fail
            refine hK.out _ _ (HKp.out _ (by repeat (first | exact hr0 | exact p8 | apply Below.drew | (refine Below.alloc ?_ (by first | exact Below.size (by assumption) | omega | (simp; done) | (simp; omega)) _)))) (fun hHeld => ?_)
            clear hK K
            try simp only [Act.put, List.setIfInBounds_toArray, List.set_cons_zero, List.set_cons_succ]
            refine wpAnyH_ready (rs := [10]) (by kernel_rfl) (by simp) ?_
            refine AllReadyH.cons (o := _) rfl (fun K hK => ?_) AllReadyH.nil
            have HO8 := hid (HO3.out.below (p8.alloc p8.size (.cells #[.bool ba] 4)))
            have hA8 := HO8.out.mem.A
            have l9 := p8.size
            refine step_append_lies _ rfl _ _ 23 rfl (w0.heap.size + 2) 4 j3 (.bool false) 1 1 Try.underlying23 hjnf3 hb0 hb1 hb2 rfl (by decide) vA accs.length (accs.map Value.bool) (by rfl) (by exact hA8) ⟨w8.heap.size, 0, none⟩ 1 1 [.bool ba] (by rfl) rfl (World.news_of_block (cs := #[.bool ba]) (t := 4) (fr := (0, 0)) (heap_alloc_new w8 _)) (by simp [Value.oneCell']) (by decide) (by unfold maxLen; omega) (by omega) (by simp; omega) _ rfl ?_
            intro gV cV w9 hown9 hgr9 hat9 hlt9
            have HO9 := hid (HO8.out.pushA hown9 hgr9 (lies_loc (n := accs.length + 1) (c := cV) hat9))
            obtain ⟨x9, f9⟩ := HO8.out.preA hgr9
            refine hK.out _ _ (HKg.out _ _ (p8.alloc p8.size _) hgr9) (fun hHeld => ?_)
            clear hK K
            try simp only [Act.put, List.setIfInBounds_toArray, List.set_cons_zero, List.set_cons_succ]
            refine take_d (i := 11) (d := some 84) (v := ?_) rfl rfl (by kernel_rfl) (by kernel_rfl) (by kernel_rfl) (fun _ _ _ h => h) (Or.inl ⟨by first | rfl | (simp [*, Region.wanted, yielded]), ?hym8⟩) (by assumption) ?restm8
            case hym8 => (intro w hSw; (try dsimp only at hSw); go_simp <;> with_reducible rfl)
            try simp only [Act.put, List.setIfInBounds_toArray, List.set_cons_zero, List.set_cons_succ]
            refine wpAnyH_ready (rs := [12]) (by kernel_rfl) (by simp) ?_
            refine AllReadyH.cons (o := _) rfl (fun K hK => ?_) AllReadyH.nil
            go_simp
            go_wp2_with fail
            refine hK.out _ _ (HKs.out _ _ _ (p8.alloc p8.size _) hgr9) (fun hHeld => ?_)
            clear hK K
            try simp only [Act.put, List.setIfInBounds_toArray, List.set_cons_zero, List.set_cons_succ]
            refine wpAnyH_done (by kernel_rfl) ?_ _
            go_simp
            clear hown9 hgr9 hat9 hlt9 x9 f9 hA8 x8 hHeld
            have hkM2 := hkM
            go_wp2
            go_roundg gk'
            case rel => exact ⟨k + 1, _, _, _, by omega, by rw [HSt2.out]; exact hk1l, by go_num, HJ2, by rw [HSt2.out]; exact HO9⟩
            all_goals omega
          · go_simp
            refine (HAc.out _ ?_).mono ?_
            · repeat (first | exact hr0 | exact p8 | apply Below.drew | (refine Below.alloc ?_ (by first | exact Below.size (by assumption) | omega | (simp; done) | (simp; omega)) _))
            rintro e8 w8 ⟨hb8, rfl⟩
            have p8 : Below wq.heap.size wq w8 := Below.trans (by repeat (first | exact hr0 | apply Below.drew | (refine Below.alloc ?_ (by first | exact Below.size (by assumption) | omega | (simp; done) | (simp; omega)) _))) (hb8.mono (by first | (simp; done) | (simp; omega)))
            have x8 : w8.cell? ⟨w0.heap.size, 2, none⟩ = some vA := (p8.cell (cell_lt c2v)).trans c2v
            have l8 : w0.heap.size < w8.heap.size := cell_lt x8
            go_wp2_with fail
            refine hK.out _ _ (HKp.out _ p8) (fun hHeld => ?_)
            clear hK K
            try simp only [Act.put, List.setIfInBounds_toArray, List.set_cons_zero, List.set_cons_succ]
            refine wpAnyH_ready (rs := [1, 9]) (by kernel_rfl) (by simp) ?_
            refine AllReadyH.cons (o := _) rfl (fun K hK => ?_) (AllReadyH.cons (o := _) rfl (fun K hK => ?_) AllReadyH.nil)
            · go_simp
              go_wp2_with fail
              refine hK.out _ _ (HKp.out _ (by repeat (first | exact hr0 | exact p8 | apply Below.drew | (refine Below.alloc ?_ (by first | exact Below.size (by assumption) | omega | (simp; done) | (simp; omega)) _)))) (fun hHeld => ?_)
              clear hK K
              try simp only [Act.put, List.setIfInBounds_toArray, List.set_cons_zero, List.set_cons_succ]
              refine wpAnyH_ready (rs := [9]) (by kernel_rfl) (by simp) ?_
              refine AllReadyH.cons (o := _) rfl (fun K hK => ?_) AllReadyH.nil
              go_simp
              go_wp2_with fail
              refine hK.out _ _ (HKp.out _ (by repeat (first | exact hr0 | exact p8 | apply Below.drew | (refine Below.alloc ?_ (by first | exact Below.size (by assumption) | omega | (simp; done) | (simp; omega)) _)))) (fun hHeld => ?_)
              clear hK K
              try simp only [Act.put, List.setIfInBounds_toArray, List.set_cons_zero, List.set_cons_succ]
              refine wpAnyH_ready (rs := [10]) (by kernel_rfl) (by simp) ?_
              refine AllReadyH.cons (o := _) rfl (fun K hK => ?_) AllReadyH.nil
              have HO8 := hid (HO3.out.below (p8.alloc p8.size (.cells #[.bool ba] 4)))
              have hA8 := HO8.out.mem.A
              have l9 := p8.size
              refine step_append_lies _ rfl _ _ 23 rfl (w0.heap.size + 2) 4 j3 (.bool false) 1 1 Try.underlying23 hjnf3 hb0 hb1 hb2 rfl (by decide) vA accs.length (accs.map Value.bool) (by rfl) (by exact hA8) ⟨w8.heap.size, 0, none⟩ 1 1 [.bool ba] (by rfl) rfl (World.news_of_block (cs := #[.bool ba]) (t := 4) (fr := (0, 0)) (heap_alloc_new w8 _)) (by simp [Value.oneCell']) (by decide) (by unfold maxLen; omega) (by omega) (by simp; omega) _ rfl ?_
              intro gV cV w9 hown9 hgr9 hat9 hlt9
              have HO9 := hid (HO8.out.pushA hown9 hgr9 (lies_loc (n := accs.length + 1) (c := cV) hat9))
              obtain ⟨x9, f9⟩ := HO8.out.preA hgr9
              refine hK.out _ _ (HKg.out _ _ (p8.alloc p8.size _) hgr9) (fun hHeld => ?_)
              clear hK K
              try simp only [Act.put, List.setIfInBounds_toArray, List.set_cons_zero, List.set_cons_succ]
              refine take_d (i := 11) (d := some 84) (v := ?_) rfl rfl (by kernel_rfl) (by kernel_rfl) (by kernel_rfl) (fun _ _ _ h => h) (Or.inl ⟨by first | rfl | (simp [*, Region.wanted, yielded]), ?hym9⟩) (by assumption) ?restm9
              case hym9 => (intro w hSw; (try dsimp only at hSw); go_simp <;> with_reducible rfl)
              try simp only [Act.put, List.setIfInBounds_toArray, List.set_cons_zero, List.set_cons_succ]
              refine wpAnyH_ready (rs := [12]) (by kernel_rfl) (by simp) ?_
              refine AllReadyH.cons (o := _) rfl (fun K hK => ?_) AllReadyH.nil
              go_simp
              go_wp2_with fail
              refine hK.out _ _ (HKs.out _ _ _ (p8.alloc p8.size _) hgr9) (fun hHeld => ?_)
              clear hK K
              try simp only [Act.put, List.setIfInBounds_toArray, List.set_cons_zero, List.set_cons_succ]
              refine wpAnyH_done (by kernel_rfl) ?_ _
              go_simp
              clear hown9 hgr9 hat9 hlt9 x9 f9 hA8 x8 hHeld
              have hkM2 := hkM
              go_wp2
              go_roundg gk'
              case rel => exact ⟨k + 1, _, _, _, by omega, by rw [HSt2.out]; exact hk1l, by go_num, HJ2, by rw [HSt2.out]; exact HO9⟩
              all_goals omega
            · go_simp
              go_wp2_with fail
              refine hK.out _ _ (HKp.out _ (by repeat (first | exact hr0 | exact p8 | apply Below.drew | (refine Below.alloc ?_ (by first | exact Below.size (by assumption) | omega | (simp; done) | (simp; omega)) _)))) (fun hHeld => ?_)
              clear hK K
              try simp only [Act.put, List.setIfInBounds_toArray, List.set_cons_zero, List.set_cons_succ]
              refine wpAnyH_ready (rs := [1]) (by kernel_rfl) (by simp) ?_
              refine AllReadyH.cons (o := _) rfl (fun K hK => ?_) AllReadyH.nil
              go_simp
              go_wp2_with fail
              refine hK.out _ _ (HKp.out _ (by repeat (first | exact hr0 | exact p8 | apply Below.drew | (refine Below.alloc ?_ (by first | exact Below.size (by assumption) | omega | (simp; done) | (simp; omega)) _)))) (fun hHeld => ?_)
              clear hK K
              try simp only [Act.put, List.setIfInBounds_toArray, List.set_cons_zero, List.set_cons_succ]
              refine wpAnyH_ready (rs := [10]) (by kernel_rfl) (by simp) ?_
              refine AllReadyH.cons (o := _) rfl (fun K hK => ?_) AllReadyH.nil
              have HO8 := hid (HO3.out.below (p8.alloc p8.size (.cells #[.bool ba] 4)))
              have hA8 := HO8.out.mem.A
              have l9 := p8.size
              refine step_append_lies _ rfl _ _ 23 rfl (w0.heap.size + 2) 4 j3 (.bool false) 1 1 Try.underlying23 hjnf3 hb0 hb1 hb2 rfl (by decide) vA accs.length (accs.map Value.bool) (by rfl) (by exact hA8) ⟨w8.heap.size, 0, none⟩ 1 1 [.bool ba] (by rfl) rfl (World.news_of_block (cs := #[.bool ba]) (t := 4) (fr := (0, 0)) (heap_alloc_new w8 _)) (by simp [Value.oneCell']) (by decide) (by unfold maxLen; omega) (by omega) (by simp; omega) _ rfl ?_
              intro gV cV w9 hown9 hgr9 hat9 hlt9
              have HO9 := hid (HO8.out.pushA hown9 hgr9 (lies_loc (n := accs.length + 1) (c := cV) hat9))
              obtain ⟨x9, f9⟩ := HO8.out.preA hgr9
              refine hK.out _ _ (HKg.out _ _ (p8.alloc p8.size _) hgr9) (fun hHeld => ?_)
              clear hK K
              try simp only [Act.put, List.setIfInBounds_toArray, List.set_cons_zero, List.set_cons_succ]
              refine take_d (i := 11) (d := some 84) (v := ?_) rfl rfl (by kernel_rfl) (by kernel_rfl) (by kernel_rfl) (fun _ _ _ h => h) (Or.inl ⟨by first | rfl | (simp [*, Region.wanted, yielded]), ?hym10⟩) (by assumption) ?restm10
              case hym10 => (intro w hSw; (try dsimp only at hSw); go_simp <;> with_reducible rfl)
              try simp only [Act.put, List.setIfInBounds_toArray, List.set_cons_zero, List.set_cons_succ]
              refine wpAnyH_ready (rs := [12]) (by kernel_rfl) (by simp) ?_
              refine AllReadyH.cons (o := _) rfl (fun K hK => ?_) AllReadyH.nil
              go_simp
              go_wp2_with fail
              refine hK.out _ _ (HKs.out _ _ _ (p8.alloc p8.size _) hgr9) (fun hHeld => ?_)
              clear hK K
              try simp only [Act.put, List.setIfInBounds_toArray, List.set_cons_zero, List.set_cons_succ]
              refine wpAnyH_done (by kernel_rfl) ?_ _
              go_simp
              clear hown9 hgr9 hat9 hlt9 x9 f9 hA8 x8 hHeld
              have hkM2 := hkM
              go_wp2
              go_roundg gk'
              case rel => exact ⟨k + 1, _, _, _, by omega, by rw [HSt2.out]; exact hk1l, by go_num, HJ2, by rw [HSt2.out]; exact HO9⟩
              all_goals omega
    · have hkE : k = sts.length := by omega
      have HF := hid (HFu.out hkE)
      subst hkE
      obtain ⟨⟨r0c, r1c, r2c⟩, r0f⟩ := HR0.out
      have hb := HO.out.mem.bel
      have hs0 := HS0.out
      have z0 := (hb.cell (cell_lt r0c)).trans r0c
      have z1 := (hb.cell (cell_lt r1c)).trans r1c
      have z2 := (hb.cell (cell_lt r2c)).trans r2c
      have y0 := (hb.frozen (p := ⟨w.heap.size + 1, 0, none⟩) (cell_lt r0c)).trans (r0f 0)
      have y1 := (hb.frozen (p := ⟨w.heap.size + 1, 1, none⟩) (cell_lt r1c)).trans (r0f 1)
      have y2 := (hb.frozen (p := ⟨w.heap.size + 1, 2, none⟩) (cell_lt r2c)).trans (r0f 2)
      have c0 := HO.out.c0
      have c1 := HO.out.c1
      have c2 := HO.out.c2
      obtain ⟨Na, nc, Aa, ac, hvN, hvA, hMA⟩ := HO.out.machF (w' := ((wr.setCell ⟨w.heap.size + 1, 0, none⟩ (.int .i64 (L : Int))).setCell ⟨w.heap.size + 1, 1, none⟩ vN).setCell ⟨w.heap.size + 1, 2, none⟩ vA) (fun a ha => by
        rw [Below.heap_setCell _ _ _ _ (by dsimp only; omega), Below.heap_setCell _ _ _ _ (by dsimp only; omega), Below.heap_setCell _ _ _ _ (by dsimp only; omega)]) (by simp) (by omega) (by omega) (fun r hr => ⟨by rw [HRn.out r hr]; omega, fun x hx => by have := HEn.out r hr x hx; unfold I64; omega⟩) (fun i hi => by rw [List.getElem?_eq_getElem hi, Option.getD_some, HRn.out _ (List.getElem_mem hi)]; omega)
      have HMA := hid hMA
      have HBb := hid ((((HB1.out.trans (hb.mono HB1.out.size)).setCell (p := ⟨w.heap.size + 1, 0, none⟩) (by simp) (.int .i64 (L : Int))).setCell (p := ⟨w.heap.size + 1, 1, none⟩) (by simp) vN).setCell (p := ⟨w.heap.size + 1, 2, none⟩) (by simp) vA)
      clear r0c r1c r2c r0f hb hMA hs0
      subst hvN hvA
      rw [hr1] at c1 HMA HBb
      rw [hr2] at c2 HMA HBb
      go_wp2
      have t0 : (((wr.setCell ⟨w.heap.size + 1, 0, none⟩ (.int .i64 (L : Int))).setCell ⟨w.heap.size + 1, 1, none⟩ (.slice Na sts.length nc)).setCell ⟨w.heap.size + 1, 2, none⟩ (.slice Aa sts.length ac)).cell? ⟨w.heap.size + 1, 0, none⟩ = some (.int .i64 (L : Int)) := by go_simp
      have t1 : (((wr.setCell ⟨w.heap.size + 1, 0, none⟩ (.int .i64 (L : Int))).setCell ⟨w.heap.size + 1, 1, none⟩ (.slice Na sts.length nc)).setCell ⟨w.heap.size + 1, 2, none⟩ (.slice Aa sts.length ac)).cell? ⟨w.heap.size + 1, 1, none⟩ = some (.slice Na sts.length nc) := by go_simp
      have t2 : (((wr.setCell ⟨w.heap.size + 1, 0, none⟩ (.int .i64 (L : Int))).setCell ⟨w.heap.size + 1, 1, none⟩ (.slice Na sts.length nc)).setCell ⟨w.heap.size + 1, 2, none⟩ (.slice Aa sts.length ac)).cell? ⟨w.heap.size + 1, 2, none⟩ = some (.slice Aa sts.length ac) := by go_simp
      generalize (((wr.setCell ⟨w.heap.size + 1, 0, none⟩ (.int .i64 (L : Int))).setCell ⟨w.heap.size + 1, 1, none⟩ (.slice Na sts.length nc)).setCell ⟨w.heap.size + 1, 2, none⟩ (.slice Aa sts.length ac)) = wz at *
      refine bodyPost_ret (v := machV L Na sts.length nc Aa sts.length ac) (by simp [machV, results, Try.results128, go_sem, t0, t1, t2]) rfl ⟨HBb.out, sts.length, HF.out, hlen, Na, nc, Aa, ⟨ac, rfl⟩, by rw [HT.out]; exact HMA.out.weak (by omega)⟩
end Go.Proofs.Ytkboeldafppicaa
