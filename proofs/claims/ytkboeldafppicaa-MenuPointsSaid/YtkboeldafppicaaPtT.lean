/- Tables whose rows are written: CountPoints of both sides. noTotals and longer of the program. -/
import Derived.Test.YtkboeldafppicaaTabW
import Derived.Test.YtkboeldafppicaaMPtM
import Derived.Test.YtkboeldafppicaaMPtC
import Derived.Test.YtkboeldafppicaaViewP
import Derived.Deep.Cut
set_option linter.unusedVariables false
set_option linter.unusedSimpArgs false
namespace Go.Proofs.Ytkboeldafppicaa
open Go.RowKit

theorem TabW.congr {w : World} {base g n1 Q k : Nat} {F F' : Nat → Nat → Int} {G : Nat → Nat} (h : TabW w base g n1 Q F G k) (hF : ∀ i q, i < k → q < Q → F i q = F' i q) : TabW w base g n1 Q F' G k :=
  ⟨h.out, fun i hi => by
    have := h.rows i hi
    rwa [show (List.range Q).map (F i) = (List.range Q).map (F' i) from List.map_congr_left (fun q hq => hF i q hi (List.mem_range.1 hq))] at this, h.ne, h.bT⟩
/-- A table of n rows of Q numbers, each row in a block of its own. -/
structure TabZ (w : World) (base g n Q : Nat) (F : Nat → Nat → Int) (G : Nat → Nat) : Prop where
  tab : TabW w base g n Q F G n
  inj : ∀ i j, i < n → j < n → G i = G j → i = j
section
variable {w w' : World} {base g n Q : Nat} {F : Nat → Nat → Int} {G : Nat → Nat}
theorem TabZ.below (h : TabZ w base g n Q F G) (hb : Below w.heap.size w w') : TabZ w' base g n Q F G := ⟨h.tab.below hb, h.inj⟩
theorem TabZ.congr {F' : Nat → Nat → Int} (h : TabZ w base g n Q F G) (hF : ∀ i q, i < n → q < Q → F i q = F' i q) : TabZ w base g n Q F' G := ⟨h.tab.congr hF, h.inj⟩
theorem set_map (Q : Nat) (f : Nat → Int) (q : Nat) (x : Int) (hq : q < Q) : ((List.range Q).map f).set q x = (List.range Q).map (fun q' => if q' = q then x else f q') := by
  refine List.ext_getElem (by simp) fun k h1 h2 => ?_
  rw [List.getElem_set]
  simp only [List.getElem_map, List.getElem_range]
  by_cases e : q = k
  · rw [if_pos e, if_pos e.symm]
  · rw [if_neg e, if_neg (fun hh => e hh.symm)]
theorem TabZ.store (h : TabZ w base g n Q F G) (i q : Nat) (hi : i < n) (hq : q < Q) (x : Int) : TabZ (w.setCell ⟨G i, q, none⟩ (.int .i64 x)) base g n Q (fun i' q' => if i' = i ∧ q' = q then x else F i' q') G := by
  obtain ⟨vals, h1, h2, h3⟩ := h.tab.out
  refine ⟨⟨⟨vals, h1, h2.other _ _ (fun e => (h.tab.ne i hi).2 e.symm), h3⟩, fun j hj => ?_, h.tab.ne, h.tab.bT⟩, h.inj⟩
  by_cases e : j = i
  · subst e
    have := (h.tab.rows j hj).set q x
    rw [set_map Q _ q x hq] at this
    rwa [show (List.range Q).map (fun q' => if j = j ∧ q' = q then x else F j q') = (List.range Q).map (fun q' => if q' = q then x else F j q') from List.map_congr_left (fun q' _ => by simp)]
  · have := (h.tab.rows j hj).other ⟨G i, q, none⟩ (.int .i64 x) (fun hh => e (h.inj j i hj hi hh))
    rwa [show (List.range Q).map (fun q' => if j = i ∧ q' = q then x else F j q') = (List.range Q).map (F j) from List.map_congr_left (fun q' _ => by simp [e])]
end
set_option maxRecDepth 100000 in
set_option maxHeartbeats 4000000 in
theorem noTotals_any (L n nc ac : Nat) (Na Aa : Option Addr) (most : Nat) (w : World) (hn : n ≤ 5000) (hm : most ≤ 400) :
    Calls Try.prog 111 #[machV L Na n nc Aa n ac, .int .i64 (most : Int)] w fun e w' => Below w.heap.size w w' ∧ ∃ g G, e = .returned (.slice (some ⟨g, 0, none⟩) n n) ∧ TabZ w' w.heap.size g n (most + 1) (fun _ _ => 0) G := by
  have hmk := make_intsM (most + 1) (by omega)
  have hmr := make_rowsM n (by omega)
  have ecast : ((most + 1 : Nat) : Int) = (most : Int) + 1 := by omega
  rw [ecast] at hmk
  have hA : Below w.heap.size w (w.alloc (machO L Na n nc Aa n ac)) := (Below.refl _ _).alloc (Nat.le_refl _) _
  have HB0 := hid (hA.alloc hA.size (.cells (List.replicate n (Value.slice none 0 0)).toArray 26))
  have HTb := hid (show TabW ((w.alloc (machO L Na n nc Aa n ac)).alloc (.cells (List.replicate n (Value.slice none 0 0)).toArray 26)) (w.heap.size + 1) (w.heap.size + 1) n (most + 1) (fun _ _ => 0) (fun _ => 0) 0 from ⟨⟨List.replicate n (Value.slice none 0 0), by simp, by have := CBox.made (w.alloc (machO L Na n nc Aa n ac)) 26 n (Value.slice none 0 0); simpa using this, fun i hi => by omega⟩, fun i hi => by omega, fun i hi => by omega, Nat.le_refl _⟩)
  clear hA
  unfold machV
  go_enter Try.func111, Try.ntmps111
  go_wp2
  go_loopw [6, 13] (fun _ i wr => ∃ (k : Nat) (G : Nat → Nat), k ≤ n ∧ i = .int .i64 (k : Int) ∧ Hid (TabW wr (w.heap.size + 1) (w.heap.size + 1) n (most + 1) (fun _ _ => 0) G k) ∧ Hid (∀ i j, i < k → j < k → G i = G j → i = j) ∧ Hid (Below w.heap.size w wr)) (fun _ i _ => n - (intOf i).toNat)
  case atStart => exact ⟨0, fun _ => 0, Nat.zero_le _, rfl, HTb.out, (fun i j hi => by omega), HB0.out⟩
  case round =>
    clear HTb HB0
    obtain ⟨k, G, hk, rfl, HTb, HJ, HB⟩ := hrel
    by_cases hlt : k < n
    · have hlt1 : (k : Int) < (n : Int) := by omega
      have hk0 : (0 : Int) ≤ (k : Int) := by omega
      have hsz := HTb.out.out.elim (fun vals hh => hh.2.1.lt)
      obtain ⟨v0, r1⟩ : ∃ v0, wr.cell? ⟨w.heap.size + 1, k, none⟩ = some v0 := by
        obtain ⟨vals, e1, e2, _⟩ := HTb.out.out
        exact ⟨_, e2.cell k _ (List.getElem?_eq_getElem (by omega))⟩
      have r2 : wr.frozen? ⟨w.heap.size + 1, k, none⟩ = false := by
        obtain ⟨vals, e1, e2, _⟩ := HTb.out.out
        exact e2.frozen k
      obtain ⟨W5, hW5⟩ : ∃ W5, W5 = (wr.alloc (.cells (List.replicate (most + 1) (Value.int .i64 0)).toArray 3)).setCell ⟨w.heap.size + 1, k, none⟩ (.slice (some ⟨wr.heap.size, 0, none⟩) (most + 1) (most + 1)) := ⟨_, rfl⟩
      have hW5' : (wr.setCell ⟨w.heap.size + 1, k, none⟩ (.slice (some ⟨wr.heap.size, 0, none⟩) (most + 1) (most + 1))).alloc (.cells (List.replicate (most + 1) (Value.int .i64 0)).toArray 3) = W5 := by
        rw [hW5, World.setCell_alloc_past _ _ _ _ hsz]
      have HI5 := hid (show IBox W5 wr.heap.size ((List.range (most + 1)).map (fun _ => (0 : Int))) by
        rw [hW5]
        have := (IBox.made wr (most + 1)).other ⟨w.heap.size + 1, k, none⟩ (.slice (some ⟨wr.heap.size, 0, none⟩) (most + 1) (most + 1)) (by simp; omega)
        rw [show (List.range (most + 1)).map (fun _ => (0 : Int)) = List.replicate (most + 1) 0 from by rw [List.map_const', List.length_range]]
        exact this)
      have HT5 := hid (HTb.out.step hlt (by omega) (.cells (List.replicate (most + 1) (Value.int .i64 0)).toArray 3) (wz := W5) (by rw [← hW5]; exact Below.refl _ _) HI5.out)
      have HJ5 := hid (show ∀ i j, i < k + 1 → j < k + 1 → (if i = k then wr.heap.size else G i) = (if j = k then wr.heap.size else G j) → i = j from fun i j hi hj he => by
        by_cases e1 : i = k
        · by_cases e2 : j = k
          · omega
          · rw [if_pos e1, if_neg e2] at he
            have := (HTb.out.rows j (by omega)).lt
            omega
        · by_cases e2 : j = k
          · rw [if_neg e1, if_pos e2] at he
            have := (HTb.out.rows i (by omega)).lt
            omega
          · rw [if_neg e1, if_neg e2] at he
            exact HJ.out i j (by omega) (by omega) he)
      have HB5 := hid (show Below w.heap.size w W5 by
        rw [hW5]; exact (HB.out.alloc HB.out.size _).setCell (p := ⟨w.heap.size + 1, k, none⟩) (by simp) _)
      rw [List.toArray_replicate] at hW5'
      clear hW5 HI5
      go_wp2
      go_roundw
      case rel => exact ⟨k + 1, _, by omega, by go_num, HT5.out, HJ5.out, HB5.out⟩
      case measure => simp [intOf]; omega
    · have hlt1 : ¬ (k : Int) < (n : Int) := by omega
      obtain rfl : k = n := by omega
      have HZ := hid (show TabZ wr w.heap.size (w.heap.size + 1) k (most + 1) (fun _ _ => 0) G from ⟨HTb.out.weak (by omega), HJ.out⟩)
      clear HTb HJ
      go_wp2
      go_ret
      exact ⟨HB.out, _, rfl, G, HZ.out⟩
/-- The points of a letter. -/
def ptp (ps : List Int) (c : Nat) : Nat := (ps[c]?.getD 0).toNat
section
variable (L : Nat) (next : Nat → Nat → Nat) (P : Nat → Nat) (W : Nat → Nat → Int)
/-- What s states and c letters of the next one bring. -/
def lgR (s c i q : Nat) : Int := sumN (fun s' => sumN (fun c' => brg next P W s' c' i q) L) s + sumN (fun c' => brg next P W s c' i q) c
end
section
variable {L : Nat} {next : Nat → Nat → Nat} {P : Nat → Nat} {W : Nat → Nat → Int}
theorem lgR_succ (s c i q : Nat) : lgR L next P W s (c + 1) i q = lgR L next P W s c i q + brg next P W s c i q := by
  unfold lgR
  rw [show sumN (fun c' => brg next P W s c' i q) (c + 1) = sumN (fun c' => brg next P W s c' i q) c + brg next P W s c i q from rfl]
  omega
theorem lgR_next (s i q : Nat) : lgR L next P W (s + 1) 0 i q = lgR L next P W s L i q := by
  unfold lgR
  rw [show sumN (fun s' => sumN (fun c' => brg next P W s' c' i q) L) (s + 1) = sumN (fun s' => sumN (fun c' => brg next P W s' c' i q) L) s + sumN (fun c' => brg next P W s c' i q) L from rfl]
  rw [show sumN (fun c' => brg next P W (s + 1) c' i q) 0 = 0 from rfl]
  omega
theorem lgR_zero (i q : Nat) : lgR L next P W 0 0 i q = 0 := rfl
theorem lgR_full (n i q : Nat) : lgR L next P W n 0 i q = sumN (fun s' => sumN (fun c' => brg next P W s' c' i q) L) n := by
  unfold lgR
  rw [show sumN (fun c' => brg next P W n c' i q) 0 = 0 from rfl]
  omega
theorem lgR_bd (hW : ∀ s q, 0 ≤ W s q) (n s c i q : Nat) (hs : s < n) (hc : c ≤ L) : 0 ≤ lgR L next P W s c i q ∧ lgR L next P W s c i q ≤ sumN (fun s' => sumN (fun c' => brg next P W s' c' i q) L) n := by
  have hb : ∀ s c, 0 ≤ brg next P W s c i q := fun s c => brg_nn W hW s c i q
  have h1 : ∀ s, 0 ≤ sumN (fun c' => brg next P W s c' i q) L := fun s => sumN_nn _ _ (fun c _ => hb s c)
  have h2 := sumN_nn (fun s' => sumN (fun c' => brg next P W s' c' i q) L) s (fun s' _ => h1 s')
  have h3 := sumN_nn (fun c' => brg next P W s c' i q) c (fun c' _ => hb s c')
  have h4 := sumN_le (fun c' => brg next P W s c' i q) L c hc (fun c' _ => hb s c')
  have h5 := sumN_le (fun s' => sumN (fun c' => brg next P W s' c' i q) L) n (s + 1) (by omega) (fun s' _ => h1 s')
  have h6 : sumN (fun s' => sumN (fun c' => brg next P W s' c' i q) L) (s + 1) = sumN (fun s' => sumN (fun c' => brg next P W s' c' i q) L) s + sumN (fun c' => brg next P W s c' i q) L := rfl
  unfold lgR
  omega
end
/-- The table while the totals of one state and letter are brought: m of them are. -/
def pmid (R : Nat → Nat → Int) (W : Nat → Nat → Int) (i s p0 m i' q' : Nat) : Int := R i' q' + (if i' = i ∧ p0 ≤ q' ∧ q' < p0 + m then W s (q' - p0) else 0)
theorem pmid_step (R W : Nat → Nat → Int) (i s p0 m k : Nat) (hk : k = p0 + m) (i' q' : Nat) : (if i' = i ∧ q' = k then pmid R W i s p0 m i k + W s m else pmid R W i s p0 m i' q') = pmid R W i s p0 (m + 1) i' q' := by
  unfold pmid
  by_cases e : i' = i
  · subst e
    by_cases e2 : q' = k
    · subst e2
      rw [if_pos ⟨rfl, rfl⟩, if_neg (by omega), if_pos (by omega), show q' - p0 = m by omega]
      omega
    · rw [if_neg (fun hh => e2 hh.2)]
      by_cases e3 : p0 ≤ q' ∧ q' < p0 + m
      · rw [if_pos ⟨rfl, e3⟩, if_pos ⟨rfl, by omega, by omega⟩]
      · rw [if_neg (fun hh => e3 hh.2), if_neg (by omega)]
  · rw [if_neg (fun hh => e hh.1), if_neg (fun hh => e hh.1), if_neg (fun hh => e hh.1)]
set_option maxRecDepth 100000 in
set_option maxHeartbeats 8000000 in
theorem longer_any (L nc ac : Nat) (Na Aa : Option Addr) (rows : List (List Int)) (accs : List Bool) (b0 gW Q : Nat) (W : Nat → Nat → Int) (GW : Nat → Nat) (A : Option Addr) (ps : List Int) (cap : Nat) (w : World) (h : MachAt w Na rows Aa accs) (hg : GoodM L rows accs) (hn5 : rows.length ≤ 64) (hT : TabW w b0 gW rows.length Q W GW rows.length) (hQ : 1 ≤ Q ∧ Q ≤ 401) (hp : Ints w A ps) (hpl : ps.length = L) (hpa : allB ps 21 = true)
    (hW0 : ∀ s q, 0 ≤ W s q) (hW1 : ∀ i q, i < rows.length → q < Q → sumN (fun s' => sumN (fun c' => brg (mN rows) (ptp ps) W s' c' i q) L) rows.length ≤ 3656158440062976) :
    Calls Try.prog 112 #[machV L Na rows.length nc Aa rows.length ac, .slice (some ⟨gW, 0, none⟩) rows.length rows.length, .slice A ps.length cap] w fun e w' => Below w.heap.size w w' ∧ ∃ g G, e = .returned (.slice (some ⟨g, 0, none⟩) rows.length rows.length) ∧ TabZ w' w.heap.size g rows.length Q (fun i q => sumN (fun s' => sumN (fun c' => brg (mN rows) (ptp ps) W s' c' i q) L) rows.length) G := by
  have hpos := hg.pos
  obtain ⟨most, rfl⟩ : ∃ m, Q = m + 1 := ⟨Q - 1, by omega⟩
  have hA : Below w.heap.size w (w.alloc (machO L Na rows.length nc Aa rows.length ac)) := (Below.refl _ _).alloc (Nat.le_refl _) _
  have HM := hid (h.below hA)
  have HT := hid (hT.below hA)
  have HP := hid (hp.below hA)
  have HG := hid hg
  have HA := hid hA
  have HLp := hid hpl
  have HLi := hid hg.hi
  have HPb := hid (show ∀ c, c < ps.length → ps[c]?.getD 0 = (ptp ps c : Int) ∧ ptp ps c ≤ 20 from fun c hc => by
    have := allB_iff.1 hpa _ (getD_mem ps c hc)
    unfold ptp
    omega)
  have HBd := hid (fun s c i q (hs : s < rows.length) (hc : c ≤ L) => lgR_bd (next := mN rows) (P := ptp ps) hW0 rows.length s c i q hs hc)
  have HW1 := hid hW1
  have HW0 := hid hW0
  have hlp := hp.len
  clear h hT hp hpl hpa hW0 hW1 hg hA
  have c0 : (w.alloc (machO L Na rows.length nc Aa rows.length ac)).cell? ⟨w.heap.size, 0, none⟩ = some (.int .i64 (L : Int)) := by go_simp
  have c1 : (w.alloc (machO L Na rows.length nc Aa rows.length ac)).cell? ⟨w.heap.size, 1, none⟩ = some (.slice Na rows.length nc) := by go_simp
  have c2 : (w.alloc (machO L Na rows.length nc Aa rows.length ac)).cell? ⟨w.heap.size, 2, none⟩ = some (.slice Aa rows.length ac) := by go_simp
  unfold machV
  go_enter Try.func112, Try.ntmps112
  go_upto_region 1 with (fail)
  generalize w.alloc (machO L Na rows.length nc Aa rows.length ac) = wb at *
  have t0 := HT.out.cell 0 hpos
  have hp0 : (0 : Int) < (rows.length : Int) := by omega
  have hNt := noTotals_any L rows.length nc ac Na Aa most wb (by omega) (by omega)
  unfold machV at hNt
  have HNt := hid hNt
  clear hNt
  go_wp2_with fail
  refine HNt.out.mono ?_
  rintro e w2 ⟨hb2, g, G, rfl, hZ⟩
  have HZ0 := hid (hZ.congr (F' := lgR L (mN rows) (ptp ps) W 0 0) (fun i q _ _ => (lgR_zero i q).symm))
  have HB2 := hid hb2
  clear hb2 hZ HNt t0
  go_wp2_with fail
  go_loopw [9, 10, 11, 12, 13, 14, 25] (fun _ _ _ _ _ _ i wr => ∃ (s : Nat), s ≤ rows.length ∧ i = .int .i64 (s : Int) ∧ Hid (TabZ wr wb.heap.size g rows.length (most + 1) (lgR L (mN rows) (ptp ps) W s 0) G) ∧ Hid (Below wb.heap.size wb wr)) (fun _ _ _ _ _ _ i _ => rows.length - (intOf i).toNat)
  case atStart => exact ⟨0, Nat.zero_le _, rfl, HZ0.out, HB2.out⟩
  case round =>
    clear HZ0 HB2
    obtain ⟨s, hs, rfl, HZ, HB⟩ := hrel
    by_cases hlt : s < rows.length
    · have hlt1 : (s : Int) < (rows.length : Int) := by omega
      have hs0 : (0 : Int) ≤ (s : Int) := by omega
      have u1 := (HT.out.below HB.out).cell s hlt
      go_wp2
      go_loopw [11, 12, 13, 14, 32] (fun _ _ _ _ i wr => ∃ (c : Nat), c ≤ ps.length ∧ i = .int .i64 (c : Int) ∧ Hid (TabZ wr wb.heap.size g rows.length (most + 1) (lgR L (mN rows) (ptp ps) W s c) G) ∧ Hid (Below wb.heap.size wb wr)) (fun _ _ _ _ i _ => ps.length - (intOf i).toNat)
      case atStart => exact ⟨0, Nat.zero_le _, rfl, HZ.out, HB.out⟩
      case round =>
        clear HZ HB u1
        obtain ⟨c, hc, rfl, HZ, HB⟩ := hrel
        by_cases hcl : c < ps.length
        · have hcl1 : (c : Int) < (ps.length : Int) := by omega
          have hcc0 : (0 : Int) ≤ (c : Int) := by omega
          have hcL : c < L := by have := HLp.out; omega
          obtain ⟨he1, he2⟩ := HG.out.ent s c hlt hcL
          have hrow := HG.out.row s hlt
          obtain ⟨hpc, hp20⟩ := HPb.out c hcl
          obtain ⟨bP, oP, hPa, hPc⟩ : ∃ b o, A = some ⟨b, o, none⟩ ∧ ∀ i, i < ps.length → wb.cell? ⟨b, o + i, none⟩ = some (.int .i64 (ps[i]?.getD 0)) := by
            rcases HP.out.at_ with e | hh
            · rw [e] at hcl; simp at hcl
            · exact hh
          have v1 := (HB.out.cell (cell_lt (hPc c hcl))).trans (hPc c hcl)
          rw [hpc] at v1
          have HNx := hid (next_any L s c nc ac rows.length Na Aa rows accs wr (HM.out.below HB.out) hlt (by rw [hrow]; exact hcL))
          rw [he2] at HNx
          have HBd2 := hid (fun q => HBd.out s (c + 1) (mN rows s c) q hlt (by omega))
          have HEnd := hid (fun i q => lgR_succ (L := L) (next := mN rows) (P := ptp ps) (W := W) s c i q)
          have HPm := hid (show ∀ i q, brg (mN rows) (ptp ps) W s c i q = if i = mN rows s c ∧ ptp ps c ≤ q then W s (q - ptp ps c) else 0 from fun i q => by
            unfold brg
            by_cases e : mN rows s c = i
            · rw [if_pos e]
              by_cases e2 : ptp ps c ≤ q
              · rw [if_pos e2, if_pos ⟨e.symm, e2⟩]
              · rw [if_neg e2, if_neg (fun hh => e2 hh.2)]
            · rw [if_neg e, if_neg (fun hh => e hh.1.symm)])
          have e0 := (HB.out.cell (cell_lt c0)).trans c0
          have e1 := (HB.out.cell (cell_lt c1)).trans c1
          have e2 := (HB.out.cell (cell_lt c2)).trans c2
          subst hPa
          clear hPc hpc he2 hrow
          unfold machV at HNx
          generalize hii : mN rows s c = i at *
          generalize hpp : ptp ps c = p0 at *
          have HII := hid hii
          have HPP := hid hpp
          clear hii hpp
          go_wp2_with fail
          refine HNx.out.mono ?_
          rintro e w7 ⟨rfl, rfl⟩
          have hA7 : Below wr.heap.size wr (wr.alloc (machO L Na rows.length nc Aa rows.length ac)) := (Below.refl _ _).alloc (Nat.le_refl _) _
          have HZ7 := hid (HZ.out.below hA7)
          have HB7 := hid (HB.out.trans (hA7.mono HB.out.size))
          clear e0 e1 e2 v1 HNx HZ HB hA7
          generalize wr.alloc (machO L Na rows.length nc Aa rows.length ac) = w8 at *
          have y1 := HZ7.out.tab.cell i he1
          have hi0 : (0 : Int) ≤ (i : Int) := by omega
          have hi1 : (i : Int) < (rows.length : Int) := by omega
          have HZm := hid (HZ7.out.congr (F' := pmid (lgR L (mN rows) (ptp ps) W s c) W i s p0 0) (fun i' q' _ _ => by unfold pmid; rw [if_neg (by omega)]; omega))
          go_wp2_with fail
          go_loopw [14] (fun v wr => ∃ (m : Nat), m ≤ most + 1 ∧ v = .int .i64 (m : Int) ∧ Hid (TabZ wr wb.heap.size g rows.length (most + 1) (pmid (lgR L (mN rows) (ptp ps) W s c) W i s p0 m) G) ∧ Hid (Below wb.heap.size wb wr)) (fun v _ => most + 1 - (intOf v).toNat)
          case atStart => exact ⟨0, by omega, rfl, HZm.out, HB7.out⟩
          case round =>
            clear HZm HB7 HZ7 y1
            obtain ⟨m, hm, rfl, HZ, HB⟩ := hrel
            obtain ⟨k, hk⟩ : ∃ k : Nat, (m : Int) + (p0 : Int) = (k : Int) := ⟨m + p0, by omega⟩
            have hkN : k = p0 + m := by omega
            by_cases hle : k ≤ most
            · have hle1 : (k : Int) ≤ (most : Int) := by omega
              have r1 := HZ.out.tab.get i k he1 (by omega)
              have r1f := (HZ.out.tab.rows i he1).frozen k
              have r2 := (HT.out.below HB.out).get s m hlt (by omega)
              have hv0 : pmid (lgR L (mN rows) (ptp ps) W s c) W i s p0 m i k = lgR L (mN rows) (ptp ps) W s c i k := by unfold pmid; rw [if_neg (by omega)]; omega
              have hv1 := HEnd.out i k
              rw [HPm.out, if_pos ⟨rfl, by omega⟩, show k - p0 = m by omega] at hv1
              have hv2 := HBd2.out k
              have hv3 := HW1.out i k he1 (by omega)
              have hv4 := HW0.out s m
              have hv5 := HBd.out s c i k hlt (by omega)
              have HS := hid ((HZ.out.store i k he1 (by omega) (pmid (lgR L (mN rows) (ptp ps) W s c) W i s p0 m i k + W s m)).congr (F' := pmid (lgR L (mN rows) (ptp ps) W s c) W i s p0 (m + 1)) (fun i' q' _ _ => pmid_step _ _ i s p0 m k hkN i' q'))
              have hxy : 0 ≤ pmid (lgR L (mN rows) (ptp ps) W s c) W i s p0 m i k + W s m ∧ pmid (lgR L (mN rows) (ptp ps) W s c) W i s p0 m i k + W s m ≤ 3656158440062976 := by omega
              have hx0 : 0 ≤ pmid (lgR L (mN rows) (ptp ps) W s c) W i s p0 m i k := by omega
              have HBs := hid (HB.out.setCell (p := ⟨G i, k, none⟩) ((HZ.out.tab.ne i he1).1) (.int .i64 (pmid (lgR L (mN rows) (ptp ps) W s c) W i s p0 m i k + W s m)))
              clear hv0 hv1 hv2 hv3 hv5 HZ HB
              generalize pmid (lgR L (mN rows) (ptp ps) W s c) W i s p0 m i k = x at *
              generalize W s m = y at *
              have hxb : x ≤ 3656158440062976 ∧ y ≤ 3656158440062976 := by omega
              have hk0 : (0 : Int) ≤ (k : Int) := by omega
              have hk1 : (k : Int) < (most : Int) + 1 := by omega
              have hm1 : (m : Int) < (most : Int) + 1 := by omega
              have HKN := hid hkN
              clear hkN
              go_wp2_with fail
              go_region
              have HS2 := hid (show TabZ ((wr.setCell ⟨G i, k, none⟩ (.int .i64 (x + y))).drew) wb.heap.size g rows.length (most + 1) (pmid (lgR L (mN rows) (ptp ps) W s c) W i s p0 (m + 1)) G from HS.out.below (Below.refl _ _).drew)
              have HB2 := hid (show Below wb.heap.size wb ((wr.setCell ⟨G i, k, none⟩ (.int .i64 (x + y))).drew) from HBs.out.drew)
              clear HS HBs r1 r1f r2
              generalize (wr.setCell ⟨G i, k, none⟩ (.int .i64 (x + y))).drew = wd at *
              go_wp2
              go_roundw
              case rel => first | exact ⟨m + 1, by omega, by go_num, HS2.out, HB2.out⟩ | (repeat apply Exists.intro; refine ⟨?_, rfl⟩; exact ⟨m + 1, by omega, by go_num, HS2.out, HB2.out⟩)
              case measure => simp [intOf]; omega
            · have hle1 : ¬ (k : Int) ≤ (most : Int) := by omega
              have HZe := hid (HZ.out.congr (F' := lgR L (mN rows) (ptp ps) W s (c + 1)) (fun i' q' _ hq => by
                rw [HEnd.out, HPm.out]
                unfold pmid
                by_cases e : i' = i ∧ p0 ≤ q'
                · rw [if_pos ⟨e.1, e.2, by omega⟩, if_pos e]
                · rw [if_neg (fun hh => e ⟨hh.1, hh.2.1⟩), if_neg e]))
              have HKN := hid hkN
              clear hkN HZ
              go_wp2
              go_roundw
              case rel => first | exact ⟨c + 1, by omega, by go_num, HZe.out, HB.out⟩ | (repeat apply Exists.intro; refine ⟨?_, rfl⟩; exact ⟨c + 1, by omega, by go_num, HZe.out, HB.out⟩)
              case measure => simp [intOf]; omega
        · have hcl1 : ¬ (c : Int) < (ps.length : Int) := by omega
          have hcL : c = L := by have := HLp.out; omega
          have HZe := hid (HZ.out.congr (F' := lgR L (mN rows) (ptp ps) W (s + 1) 0) (fun i' q' _ _ => by rw [hcL, lgR_next]))
          have HCL := hid hcL
          clear HZ hcL
          go_wp2
          go_roundw
          case rel => first | exact ⟨s + 1, by omega, by go_num, HZe.out, HB.out⟩ | (repeat apply Exists.intro; refine ⟨?_, rfl⟩; exact ⟨s + 1, by omega, by go_num, HZe.out, HB.out⟩)
          case measure => simp [intOf]; omega
    · have hlt1 : ¬ (s : Int) < (rows.length : Int) := by omega
      have hse : s = rows.length := by omega
      have HZe := hid (show TabZ wr w.heap.size g rows.length (most + 1) (fun i q => sumN (fun s' => sumN (fun c' => brg (mN rows) (ptp ps) W s' c' i q) L) rows.length) G from by
        have h1 := HZ.out.congr (F' := fun i q => sumN (fun s' => sumN (fun c' => brg (mN rows) (ptp ps) W s' c' i q) L) rows.length) (fun i' q' _ _ => by rw [hse, lgR_full])
        exact ⟨h1.tab.weak HA.out.size, h1.inj⟩)
      have HBz := hid (HA.out.trans (HB.out.mono HA.out.size))
      have HSE := hid hse
      clear HZ hse
      go_wp2
      go_ret
      exact ⟨HBz.out, _, rfl, G, HZe.out⟩
end Go.Proofs.Ytkboeldafppicaa
