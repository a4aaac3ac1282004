/- Whether a word can be served again and again: Round of package menu, and the document's. -/
import Derived.Test.YtkboeldafppicaaMRef2
set_option linter.unusedVariables false
set_option linter.unusedSimpArgs false
namespace Go.Proofs.Ytkboeldafppicaa
open Go.RowKit

/-- The state behind a word k times. -/
def rdS (rows : List (List Int)) (l : List Int) : Nat → Nat
  | 0 => 0
  | k + 1 => runK rows (rdS rows l k) l l.length
/-- All of the first n times are accepted. -/
def rdB (rows : List (List Int)) (accs : List Bool) (l : List Int) (n : Nat) : Bool := (List.range n).all (fun k => mA accs (rdS rows l (k + 1)))
theorem rdB_succ (rows : List (List Int)) (accs : List Bool) (l : List Int) (n : Nat) : rdB rows accs l (n + 1) = (rdB rows accs l n && mA accs (rdS rows l (n + 1))) := by
  unfold rdB
  rw [List.range_succ, List.all_append]; simp
theorem rdB_false {rows : List (List Int)} {accs : List Bool} {l : List Int} {k n : Nat} (hk : k < n) (h : mA accs (rdS rows l (k + 1)) = false) : rdB rows accs l n = false := by
  cases hb : rdB rows accs l n with
  | false => rfl
  | true =>
    unfold rdB at hb
    have := List.all_eq_true.1 hb k (List.mem_range.2 hk)
    rw [h] at this; cases this
theorem rdS_lt {L : Nat} {rows : List (List Int)} {accs : List Bool} (hg : GoodM L rows accs) (l : List Int) (hl : allB l L = true) (k : Nat) : rdS rows l k < rows.length := by
  induction k with
  | zero => exact hg.pos
  | succ k ih => exact runK_lt hg _ l ih hl _ (Nat.le_refl _)
theorem rdS_shift (rows : List (List Int)) (l : List Int) {i j : Nat} (h : rdS rows l i = rdS rows l j) (d : Nat) : rdS rows l (i + d) = rdS rows l (j + d) := by
  induction d with
  | zero => exact h
  | succ d ih => rw [← Nat.add_assoc, ← Nat.add_assoc, rdS, rdS, ih]
theorem pigeon (f : Nat → Nat) (n : Nat) (h : ∀ i, i ≤ n → f i < n) : ∃ i j, i < j ∧ j ≤ n ∧ f i = f j := by
  apply Classical.byContradiction
  intro hno
  have hn : ((List.range (n + 1)).map f).Nodup := by
    rw [List.nodup_iff_pairwise_ne, List.pairwise_map]
    refine (List.Pairwise.and_mem.1 (List.pairwise_lt_range (n := n + 1))).imp (fun {a b} hh e => hno ⟨a, b, hh.2.2, by have := List.mem_range.1 hh.2.1; omega, e⟩)
  have := nodup_bound n _ hn (fun x hx => by
    obtain ⟨i, hi, rfl⟩ := List.mem_map.1 hx
    exact h i (by have := List.mem_range.1 hi; omega))
  simp at this
  omega
theorem rdB_same {L : Nat} {rows : List (List Int)} {accs : List Bool} (hg : GoodM L rows accs) (l : List Int) (hl : allB l L = true) : rdB rows accs l (rows.length + 1) = rdB rows accs l rows.length := by
  rw [rdB_succ]
  cases hb : rdB rows accs l rows.length with
  | false => rfl
  | true =>
    obtain ⟨i, j, hij, hj, he⟩ := pigeon (fun k => rdS rows l (k + 1)) rows.length (fun k _ => rdS_lt hg l hl _)
    have h1 := rdS_shift rows l he (rows.length - j)
    have e1 : i + 1 + (rows.length - j) = rows.length - (j - i) + 1 := by omega
    have e2 : j + 1 + (rows.length - j) = rows.length + 1 := by omega
    rw [e1, e2] at h1
    rw [← h1]
    unfold rdB at hb
    have := List.all_eq_true.1 hb (rows.length - (j - i)) (List.mem_range.2 (by omega))
    rw [this]; rfl
/-- What Round answers. -/
def rdA (L : Int) (rows : List (List Int)) (accs : List Bool) (l : List Int) : Bool := decide (wordE L rows accs l = 0) && rdB rows accs l rows.length
set_option maxRecDepth 100000 in
set_option maxHeartbeats 4000000 in
theorem mRound_any (L : Int) (nc ac : Nat) (Na Aa : Option Addr) (rows : List (List Int)) (accs : List Bool) (A : Option Addr) (l : List Int) (cap : Nat) (w : World) (h : MachAt w Na rows Aa accs) (hw : Ints w A l) :
    Calls Try.prog 54 #[machV L Na rows.length nc Aa accs.length ac, .slice A l.length cap] w fun e w' => Below w.heap.size w w' ∧ e = .returned (.tuple #[.bool (rdA L rows accs l), .int .i64 (wordE L rows accs l)]) := by
  have hn := h.nlen
  have hal := h.alen
  have hll := hw.len
  have hA : Below w.heap.size w (w.alloc (amachO L Na rows.length nc Aa accs.length ac)) := (Below.refl _ _).alloc (Nat.le_refl _) _
  have HA := hid hA
  have HH := hid h
  have HI := hid hw
  have HE0 := hid (show rdA L rows accs l = (decide (wordE L rows accs l = 0) && rdB rows accs l rows.length) from rfl)
  have HO := hid (wordE_ok (L := L) (rows := rows) (accs := accs) (l := l))
  have HC := hid (mCheckWord_any L nc ac Na Aa rows accs A l cap _ (h.below hA) (hw.below hA))
  clear h hw
  have c0 : (w.alloc (amachO L Na rows.length nc Aa accs.length ac)).cell? ⟨w.heap.size, 0, none⟩ = some (.int .i64 L) := by go_simp
  have c1 : (w.alloc (amachO L Na rows.length nc Aa accs.length ac)).cell? ⟨w.heap.size, 1, none⟩ = some (.slice Na rows.length nc) := by go_simp
  have c2 : (w.alloc (amachO L Na rows.length nc Aa accs.length ac)).cell? ⟨w.heap.size, 2, none⟩ = some (.slice Aa accs.length ac) := by go_simp
  unfold machV at *
  go_enter Try.func54, Try.ntmps54
  go_wp2_with fail
  refine HC.out.mono ?_
  rintro e w1 ⟨hb1, rfl⟩
  have d0 := (hb1.cell (cell_lt c0)).trans c0
  have d1 := (hb1.cell (cell_lt c1)).trans c1
  have d2 := (hb1.cell (cell_lt c2)).trans c2
  have HB1 := hid (HA.out.trans (hb1.mono HA.out.size))
  clear hb1 c0 c1 c2 hA HC HA
  generalize hv0 : wordE L rows accs l = v at *
  have HV0 := hid hv0
  clear hv0
  by_cases hv : v = 0
  · subst hv
    obtain ⟨hV, h20, hall, n, rfl⟩ := HO.out rfl
    obtain ⟨hg, h64⟩ := vE_ok hV
    have hacc := hg.acc
    have HG := hid hg
    have HE := hid (show rdA n rows accs l = rdB rows accs l rows.length by rw [HE0.out]; simp)
    rw [hacc] at d2
    have hA1 : Below w1.heap.size w1 (w1.alloc (machO n Na rows.length nc Aa rows.length ac)) := (Below.refl _ _).alloc (Nat.le_refl _) _
    have b0 : (w1.alloc (machO n Na rows.length nc Aa rows.length ac)).cell? ⟨w1.heap.size, 0, none⟩ = some (.int .i64 (n : Int)) := by go_simp
    have b1 : (w1.alloc (machO n Na rows.length nc Aa rows.length ac)).cell? ⟨w1.heap.size, 1, none⟩ = some (.slice Na rows.length nc) := by go_simp
    have b2 : (w1.alloc (machO n Na rows.length nc Aa rows.length ac)).cell? ⟨w1.heap.size, 2, none⟩ = some (.slice Aa rows.length ac) := by go_simp
    have HBA := hid (HB1.out.trans (hA1.mono HB1.out.size))
    have HAf := hid (fun wx k (hb : Below w.heap.size w wx) => mAfter_any n (rdS rows l k) nc ac cap Na Aa A rows accs l wx (HH.out.below hb) hg (HI.out.below hb) hall (rdS_lt hg l hall k))
    have HAc := hid (fun wx k (hb : Below w.heap.size w wx) => accepts_any n (rdS rows l k) nc ac rows.length rows.length Na Aa rows accs wx (HH.out.below hb) (by rw [hg.acc]; exact rdS_lt hg l hall k) hg.acc.symm)
    unfold machV at HAf HAc
    clear hV hall hg hacc HO hA1
    go_wp2
    clear d0 d1 d2
    go_loopw [8, 19] (fun q i wr => ∃ (k : Nat), k ≤ rows.length ∧ i = .int .i64 k ∧ q = .int .i64 (rdS rows l k : Int) ∧ Hid (rdB rows accs l k = true) ∧ Hid (Below w.heap.size w wr) ∧ wr.cell? ⟨w1.heap.size, 0, none⟩ = some (.int .i64 (n : Int)) ∧ wr.cell? ⟨w1.heap.size, 1, none⟩ = some (.slice Na rows.length nc) ∧ wr.cell? ⟨w1.heap.size, 2, none⟩ = some (.slice Aa rows.length ac)) (fun _ i _ => rows.length - (intOf i).toNat)
    case atStart => exact ⟨0, Nat.zero_le _, rfl, rfl, rfl, HBA.out, b0, b1, b2⟩
    case round =>
      clear b0 b1 b2 HBA
      obtain ⟨k, hk, rfl, rfl, HT, HB, b0, b1, b2⟩ := hrel
      by_cases hlt : k < rows.length
      · have HSt := hid (show rdS rows l (k + 1) = runK rows (rdS rows l k) l l.length from rfl)
        have HN := hid (rdB_succ rows accs l k)
        have HF := hid (fun h => rdB_false (rows := rows) (accs := accs) (l := l) hlt h)
        go_wp2_with fail
        refine (HAf.out wr k HB.out).mono ?_
        rintro e w2 ⟨hb2, rfl⟩
        rw [← HSt.out]
        have HB2 := hid (HB.out.trans (hb2.mono HB.out.size))
        have e0 := (hb2.cell (cell_lt b0)).trans b0
        have e1 := (hb2.cell (cell_lt b1)).trans b1
        have e2 := (hb2.cell (cell_lt b2)).trans b2
        clear hb2
        go_wp2_with fail
        refine (HAc.out w2 (k + 1) HB2.out).mono ?_
        rintro e w3 ⟨rfl, rfl⟩
        have hA3 : Below w2.heap.size w2 (w2.alloc (machO n Na rows.length nc Aa rows.length ac)) := (Below.refl _ _).alloc (Nat.le_refl _) _
        have HB3 := hid (HB2.out.trans (hA3.mono HB2.out.size))
        have f0 := (hA3.cell (cell_lt e0)).trans e0
        have f1 := (hA3.cell (cell_lt e1)).trans e1
        have f2 := (hA3.cell (cell_lt e2)).trans e2
        clear hA3 HSt
        cases hb : mA accs (rdS rows l (k + 1)) with
        | true =>
          have HT2 := hid (show rdB rows accs l (k + 1) = true by rw [HN.out, HT.out, hb]; rfl)
          clear hb HN HF
          generalize w2.alloc (machO n Na rows.length nc Aa rows.length ac) = wz at *
          go_wp2
          go_roundw
          case rel => exact ⟨k + 1, by omega, by go_num, rfl, HT2.out, HB3.out, f0, f1, f2⟩
          case measure => simp [intOf]; omega
        | false =>
          have HF2 := hid (HF.out hb)
          clear hb HN HF
          generalize w2.alloc (machO n Na rows.length nc Aa rows.length ac) = wz at *
          go_wp2
          go_ret2
          exact ⟨HB3.out, by rw [HE.out, HV0.out, HF2.out]; rfl⟩
      · obtain rfl : k = rows.length := by omega
        go_wp2
        go_ret2
        exact ⟨HB.out, by rw [HE.out, HV0.out, HT.out]; rfl⟩
  · have HE := hid (show rdA L rows accs l = false by rw [HE0.out]; simp [hv])
    have hv' : (v != 0) = true := by simpa using hv
    clear hv HO
    go_wp2
    go_ret2
    exact ⟨HB1.out, by rw [HE.out, HV0.out]; rfl⟩
set_option maxRecDepth 100000 in
set_option maxHeartbeats 4000000 in
theorem rRound_any (L : Int) (nc ac : Nat) (Na Aa : Option Addr) (rows : List (List Int)) (accs : List Bool) (A : Option Addr) (l : List Int) (cap : Nat) (w : World) (h : MachAt w Na rows Aa accs) (hw : Ints w A l) :
    Calls Try.prog 55 #[machV L Na rows.length nc Aa accs.length ac, .slice A l.length cap] w fun e w' => Below w.heap.size w w' ∧ e = .returned (.tuple #[.bool (rdA L rows accs l), .int .i64 (wordE L rows accs l)]) := by
  have hn := h.nlen
  have hal := h.alen
  have hll := hw.len
  have hA : Below w.heap.size w (w.alloc (amachO L Na rows.length nc Aa accs.length ac)) := (Below.refl _ _).alloc (Nat.le_refl _) _
  have HA := hid hA
  have HH := hid h
  have HI := hid hw
  have HE0 := hid (show rdA L rows accs l = (decide (wordE L rows accs l = 0) && rdB rows accs l rows.length) from rfl)
  have HO := hid (wordE_ok (L := L) (rows := rows) (accs := accs) (l := l))
  have HC := hid (rBoth_any L nc ac Na Aa rows accs A l cap _ (h.below hA) (hw.below hA))
  clear h hw
  have c0 : (w.alloc (amachO L Na rows.length nc Aa accs.length ac)).cell? ⟨w.heap.size, 0, none⟩ = some (.int .i64 L) := by go_simp
  have c1 : (w.alloc (amachO L Na rows.length nc Aa accs.length ac)).cell? ⟨w.heap.size, 1, none⟩ = some (.slice Na rows.length nc) := by go_simp
  have c2 : (w.alloc (amachO L Na rows.length nc Aa accs.length ac)).cell? ⟨w.heap.size, 2, none⟩ = some (.slice Aa accs.length ac) := by go_simp
  unfold machV at *
  go_enter Try.func55, Try.ntmps55
  go_wp2_with fail
  refine HC.out.mono ?_
  rintro e w1 ⟨hb1, rfl⟩
  have d0 := (hb1.cell (cell_lt c0)).trans c0
  have d1 := (hb1.cell (cell_lt c1)).trans c1
  have d2 := (hb1.cell (cell_lt c2)).trans c2
  have HB1 := hid (HA.out.trans (hb1.mono HA.out.size))
  clear hb1 c0 c1 c2 hA HC HA
  generalize hv0 : wordE L rows accs l = v at *
  have HV0 := hid hv0
  clear hv0
  by_cases hv : v = 0
  · subst hv
    obtain ⟨hV, h20, hall, n, rfl⟩ := HO.out rfl
    obtain ⟨hg, h64⟩ := vE_ok hV
    have hacc := hg.acc
    have HG := hid hg
    have HE := hid (show rdA n rows accs l = rdB rows accs l (rows.length + 1) by rw [HE0.out, rdB_same hg l hall]; simp)
    rw [hacc] at d2
    have HAf := hid (fun wx k (hb : Below w.heap.size w wx) => rFrom_any n (rdS rows l k) nc ac cap Na Aa A rows accs l wx (HH.out.below hb) hg (HI.out.below hb) hall (rdS_lt hg l hall k))
    rcases HH.out.aat with e | ⟨ba, oa, rfl, hca⟩
    · have h9 := hg.pos
      rw [e] at hacc; rw [← hacc] at h9; simp at h9
    have HAt := hid (fun wx k (hb : Below w.heap.size w wx) => show wx.cell? ⟨ba, oa + rdS rows l k, none⟩ = some (.bool (mA accs (rdS rows l k))) from by
      have hlt := rdS_lt hg l hall k
      have h9 := hca (rdS rows l k) (by omega)
      exact (hb.cell (cell_lt h9)).trans h9)
    have HLt := hid (rdS_lt hg l hall)
    unfold machV at HAf
    clear hV hall hg hacc HO hca HE0
    go_wp2
    go_loopw [7, 8] (fun q i wr => ∃ (k : Nat), k ≤ rows.length + 1 ∧ i = .int .i64 k ∧ q = .int .i64 (rdS rows l k : Int) ∧ Hid (rdB rows accs l k = true) ∧ Hid (Below w.heap.size w wr) ∧ wr.cell? ⟨w.heap.size, 0, none⟩ = some (.int .i64 (n : Int)) ∧ wr.cell? ⟨w.heap.size, 1, none⟩ = some (.slice Na rows.length nc) ∧ wr.cell? ⟨w.heap.size, 2, none⟩ = some (.slice (some ⟨ba, oa, none⟩) rows.length ac)) (fun _ i _ => rows.length + 1 - (intOf i).toNat)
    case atStart => exact ⟨0, Nat.zero_le _, rfl, rfl, rfl, HB1.out, d0, d1, d2⟩
    case round =>
      clear d0 d1 d2
      obtain ⟨k, hk, rfl, rfl, HT, HB, b0, b1, b2⟩ := hrel
      by_cases hlt : k < rows.length + 1
      · have HSt := hid (show rdS rows l (k + 1) = runK rows (rdS rows l k) l l.length from rfl)
        have HN := hid (rdB_succ rows accs l k)
        have HF := hid (fun h => rdB_false (rows := rows) (accs := accs) (l := l) hlt h)
        have hki : (k : Int) ≤ (rows.length : Int) := by omega
        go_wp2_with fail
        refine (HAf.out wr k HB.out).mono ?_
        rintro e w2 ⟨hb2, rfl⟩
        rw [← HSt.out]
        have HB2 := hid (HB.out.trans (hb2.mono HB.out.size))
        have e0 := (hb2.cell (cell_lt b0)).trans b0
        have e1 := (hb2.cell (cell_lt b1)).trans b1
        have e2 := (hb2.cell (cell_lt b2)).trans b2
        have g1 := HAt.out w2 (k + 1) HB2.out
        have hsl := HLt.out (k + 1)
        clear hb2 HSt
        generalize hst : rdS rows l (k + 1) = st at *
        have Hst := hid hst
        clear hst
        cases hb : mA accs st with
        | true =>
          have HT2 := hid (show rdB rows accs l (k + 1) = true by rw [HN.out, HT.out, hb]; rfl)
          rw [hb] at g1
          clear hb HN HF
          go_wp2
          go_roundw
          case rel => exact ⟨k + 1, by omega, by go_num, by rw [Hst.out], HT2.out, HB2.out, e0, e1, e2⟩
          case measure => simp [intOf]; omega
        | false =>
          have HF2 := hid (HF.out hb)
          rw [hb] at g1
          clear hb HN HF
          go_wp2
          go_ret2
          exact ⟨HB2.out, by rw [HE.out, HV0.out, HF2.out]; rfl⟩
      · have hke : k = rows.length + 1 := by omega
        have HT9 := hid (show rdB rows accs l (rows.length + 1) = true by rw [← hke]; exact HT.out)
        have hki : ¬ (k : Int) ≤ (rows.length : Int) := by omega
        clear hke
        go_wp2
        go_ret2
        exact ⟨HB.out, by rw [HE.out, HV0.out, HT9.out]; rfl⟩
  · have HE := hid (show rdA L rows accs l = false by rw [HE0.out]; simp [hv])
    have hv' : (v != 0) = true := by simpa using hv
    clear hv HO
    go_wp2
    go_ret2
    exact ⟨HB1.out, by rw [HE.out, HV0.out]; rfl⟩
end Go.Proofs.Ytkboeldafppicaa
