/- Where a word leads, and whether it is accepted: package menu. -/
import Derived.Test.YtkboeldafppicaaMWord
set_option linter.unusedVariables false
set_option linter.unusedSimpArgs false
namespace Go.Proofs.Ytkboeldafppicaa
open Go.RowKit

/-- The state behind the first k letters of a word. -/
def runK (rows : List (List Int)) (s : Nat) (l : List Int) : Nat → Nat
  | 0 => s
  | k + 1 => mN rows (runK rows s l k) (l[k]?.getD 0).toNat
theorem runK_lt {L : Nat} {rows : List (List Int)} {accs : List Bool} (hg : GoodM L rows accs) (s : Nat) (l : List Int) (hs : s < rows.length) (hl : allB l L = true) (k : Nat) (hk : k ≤ l.length) : runK rows s l k < rows.length := by
  induction k with
  | zero => exact hs
  | succ k ih =>
    have := allB_iff.1 hl _ (getD_mem l k (by omega))
    exact (hg.ent _ _ (ih (by omega)) (by omega)).1
set_option maxRecDepth 100000 in
set_option maxHeartbeats 2000000 in
theorem mAfter_any (L s nc ac cap : Nat) (Na Aa A : Option Addr) (rows : List (List Int)) (accs : List Bool) (l : List Int) (w : World) (h : MachAt w Na rows Aa accs) (hg : GoodM L rows accs) (hw : Ints w A l) (hl : allB l L = true) (hs : s < rows.length) :
    Calls Try.prog 109 #[machV L Na rows.length nc Aa rows.length ac, .int .i64 s, .slice A l.length cap] w fun e w' => Below w.heap.size w w' ∧ e = .returned (.int .i64 (runK rows s l l.length : Int)) := by
  have hn := h.nlen
  have hll := hw.len
  have hA : Below w.heap.size w (w.alloc (machO L Na rows.length nc Aa rows.length ac)) := (Below.refl _ _).alloc (Nat.le_refl _) _
  have HA := hid hA
  have HH := hid h
  have HI := hid hw
  have HG := hid hg
  have HR := hid (fun k hk => runK_lt hg s l hs hl k hk)
  have HL := hid (fun k (hk : k < l.length) => allB_iff.1 hl _ (getD_mem l k hk))
  clear h hg hw hl hs hA
  have c0 : (w.alloc (machO L Na rows.length nc Aa rows.length ac)).cell? ⟨w.heap.size, 0, none⟩ = some (.int .i64 (L : Int)) := by go_simp
  have c1 : (w.alloc (machO L Na rows.length nc Aa rows.length ac)).cell? ⟨w.heap.size, 1, none⟩ = some (.slice Na rows.length nc) := by go_simp
  have c2 : (w.alloc (machO L Na rows.length nc Aa rows.length ac)).cell? ⟨w.heap.size, 2, none⟩ = some (.slice Aa rows.length ac) := by go_simp
  unfold machV
  go_enter Try.func109, Try.ntmps109
  go_wp2
  go_loopw [1, 11] (fun q i wr => ∃ (k : Nat), k ≤ l.length ∧ i = .int .i64 k ∧ q = .int .i64 (runK rows s l k : Int) ∧ Hid (Below w.heap.size w wr) ∧ w.heap.size < wr.heap.size ∧ wr.cell? ⟨w.heap.size, 0, none⟩ = some (.int .i64 (L : Int)) ∧ wr.cell? ⟨w.heap.size, 1, none⟩ = some (.slice Na rows.length nc) ∧ wr.cell? ⟨w.heap.size, 2, none⟩ = some (.slice Aa rows.length ac)) (fun _ i _ => l.length - (intOf i).toNat)
  case atStart => exact ⟨0, Nat.zero_le _, rfl, rfl, HA.out, by simp, c0, c1, c2⟩
  case round =>
    clear c0 c1 c2 HA
    obtain ⟨k, hk, rfl, rfl, HB, hsz, c0, c1, c2⟩ := hrel
    by_cases hlt : k < l.length
    · have hI := HI.out.below HB.out
      rcases hI.at_ with e | ⟨b, off, rfl, hc⟩
      · rw [e] at hlt; simp at hlt
      have d0 := hc k hlt
      have hlk := HL.out k hlt
      have hrk := HR.out k hk
      have HSt := hid (show runK rows s l (k + 1) = mN rows (runK rows s l k) (l[k]?.getD 0).toNat from rfl)
      clear hI hc
      generalize runK rows s l k = q at *
      obtain ⟨x, hx⟩ := Int.eq_ofNat_of_zero_le hlk.1
      rw [hx] at d0 hlk HSt
      clear hx
      rw [Int.toNat_natCast] at HSt
      have hxL : x < L := by omega
      have hrow := HG.out.row q hrk
      obtain ⟨he1, he2⟩ := HG.out.ent q x hrk hxL
      have HNx := hid (next_any L q x nc ac rows.length Na Aa rows accs wr (HH.out.below HB.out) hrk (by rw [hrow]; exact hxL))
      rw [he2] at HNx
      rw [← HSt.out] at HNx
      clear hrow he1 he2
      have hA1 : Below wr.heap.size wr (wr.alloc (machO L Na rows.length nc Aa rows.length ac)) := (Below.refl _ _).alloc (Nat.le_refl _) _
      have e0 := (hA1.cell (cell_lt c0)).trans c0
      have e1 := (hA1.cell (cell_lt c1)).trans c1
      have e2 := (hA1.cell (cell_lt c2)).trans c2
      have HB1 := hid (HB.out.trans (hA1.mono HB.out.size))
      have hsz1 : w.heap.size < (wr.alloc (machO L Na rows.length nc Aa rows.length ac)).heap.size := by simp; omega
      clear hA1
      go_wp2_with fail
      refine HNx.out.mono ?_
      rintro e w1 ⟨rfl, rfl⟩
      generalize wr.alloc (machO L Na rows.length nc Aa rows.length ac) = wz at *
      clear c0 c1 c2 HNx
      go_wp2
      go_roundw
      case rel => exact ⟨k + 1, by omega, by go_num, rfl, HB1.out, hsz1, e0, e1, e2⟩
      case measure => simp [intOf]; omega
    · obtain rfl : k = l.length := by omega
      go_wp2
      go_ret
      exact ⟨HB.out, rfl⟩
theorem tkS_keep {w0 w w' : World} {pM : Nat} {L rn : Nat} {Na : Option Addr} {nc : Nat} {Aa : Option Addr} {ac : Nat} (h : w.cell? ⟨pM, 0, none⟩ = some (.int .i64 (L : Int)) ∧ w.cell? ⟨pM, 1, none⟩ = some (.slice Na rn nc) ∧ w.cell? ⟨pM, 2, none⟩ = some (.slice Aa rn ac) ∧ Below w0.heap.size w0 w) (hb : Below w.heap.size w w') : w'.cell? ⟨pM, 0, none⟩ = some (.int .i64 (L : Int)) ∧ w'.cell? ⟨pM, 1, none⟩ = some (.slice Na rn nc) ∧ w'.cell? ⟨pM, 2, none⟩ = some (.slice Aa rn ac) ∧ Below w0.heap.size w0 w' := by
  obtain ⟨h2, h3, h4, h6⟩ := h
  exact ⟨(hb.cell (cell_lt h2)).trans h2, (hb.cell (cell_lt h3)).trans h3, (hb.cell (cell_lt h4)).trans h4, h6.trans (hb.mono h6.size)⟩
set_option maxRecDepth 100000 in
set_option maxHeartbeats 2000000 in
theorem mTakes_any (L nc ac cap : Nat) (Na Aa A : Option Addr) (rows : List (List Int)) (accs : List Bool) (l : List Int) (w : World) (h : MachAt w Na rows Aa accs) (hg : GoodM L rows accs) (hw : Ints w A l) (hl : allB l L = true) :
    Calls Try.prog 65 #[machV L Na rows.length nc Aa rows.length ac, .slice A l.length cap] w fun e w' => Below w.heap.size w w' ∧ e = .returned (.bool (mA accs (runK rows 0 l l.length))) := by
  have hn := h.nlen
  have hll := hw.len
  have hA : Below w.heap.size w (w.alloc (machO L Na rows.length nc Aa rows.length ac)) := (Below.refl _ _).alloc (Nat.le_refl _) _
  have HAf := hid (fun wx (hb : Below w.heap.size w wx) => mAfter_any L 0 nc ac cap Na Aa A rows accs l wx (h.below hb) hg (hw.below hb) hl hg.pos)
  have HAc := hid (fun wx (hb : Below w.heap.size w wx) => (accepts_any L (runK rows 0 l l.length) nc ac rows.length rows.length Na Aa rows accs wx (h.below hb) (by rw [hg.acc]; exact runK_lt hg 0 l hg.pos hl _ (Nat.le_refl _)) hg.acc.symm).mono (R' := fun e w' => Below wx.heap.size wx w' ∧ e = .returned (.bool (mA accs (runK rows 0 l l.length)))) (by rintro e w' ⟨rfl, rfl⟩; exact ⟨(Below.refl _ _).alloc (Nat.le_refl _) _, rfl⟩))
  have c0 : (w.alloc (machO L Na rows.length nc Aa rows.length ac)).cell? ⟨w.heap.size, 0, none⟩ = some (.int .i64 (L : Int)) := by go_simp
  have c1 : (w.alloc (machO L Na rows.length nc Aa rows.length ac)).cell? ⟨w.heap.size, 1, none⟩ = some (.slice Na rows.length nc) := by go_simp
  have c2 : (w.alloc (machO L Na rows.length nc Aa rows.length ac)).cell? ⟨w.heap.size, 2, none⟩ = some (.slice Aa rows.length ac) := by go_simp
  have S0 := hid (show _ ∧ _ ∧ _ ∧ _ from ⟨c0, c1, c2, hA⟩)
  clear h hg hw hl hA c0 c1 c2
  generalize mA accs (runK rows 0 l l.length) = bz at *
  unfold machV at *
  generalize runK rows 0 l l.length = q at *
  go_enter Try.func65, Try.ntmps65
  go_wp2_with fail
  go_region_held3 (fun w' => w'.cell? ⟨w.heap.size, 0, none⟩ = some (.int .i64 (L : Int)) ∧ w'.cell? ⟨w.heap.size, 1, none⟩ = some (.slice Na rows.length nc) ∧ w'.cell? ⟨w.heap.size, 2, none⟩ = some (.slice Aa rows.length ac) ∧ Below w.heap.size w w') (first | exact tkS_keep S0.out (Below.refl _ _).drew | exact S0.out | exact tkS_keep (by assumption) (by assumption)) ((first | (go_at_call 109; refine (HAf.out _ ?_).mono ?_; (exact (And.right (And.right (And.right (by assumption))))); rintro e w5 ⟨hb5, rfl⟩) | (go_at_call 72; refine (HAc.out _ ?_).mono ?_; (exact (And.right (And.right (And.right (by assumption))))); rintro e w6 ⟨hb6, rfl⟩)))
  rename _ ∧ _ => hHeld
  have hBz := hHeld.2.2.2
  clear hb6 hHeld S0 HAf HAc
  go_wp2
  go_ret
  exact ⟨hBz, rfl⟩
/-- Whether a word is accepted, if it is right. -/
def accB (L : Int) (rows : List (List Int)) (accs : List Bool) (l : List Int) : Bool := decide (wordE L rows accs l = 0) && mA accs (runK rows 0 l l.length)
theorem wordE_ok {L : Int} {rows : List (List Int)} {accs : List Bool} {l : List Int} (h : wordE L rows accs l = 0) : vE L rows accs = 0 ∧ l.length ≤ 20 ∧ allB l L = true ∧ ∃ n : Nat, L = n := by
  unfold wordE at h
  split at h
  · rename_i h1; exact absurd h h1
  · rename_i h1
    have hv : vE L rows accs = 0 := Classical.byContradiction h1
    unfold lE at h
    split at h
    · cases h
    · rename_i h2
      split at h
      · rename_i h3
        refine ⟨hv, by omega, h3, ?_⟩
        have : 1 ≤ L := by
          unfold vE at hv
          split at hv
          · cases hv
          · rename_i h4; omega
        exact ⟨L.toNat, by omega⟩
      · cases h
set_option maxRecDepth 100000 in
set_option maxHeartbeats 2000000 in
theorem mAccepts_any (L : Int) (nc ac : Nat) (Na Aa : Option Addr) (rows : List (List Int)) (accs : List Bool) (A : Option Addr) (l : List Int) (cap : Nat) (w : World) (h : MachAt w Na rows Aa accs) (hw : Ints w A l) :
    Calls Try.prog 21 #[machV L Na rows.length nc Aa accs.length ac, .slice A l.length cap] w fun e w' => Below w.heap.size w w' ∧ e = .returned (.tuple #[.bool (accB L rows accs l), .int .i64 (wordE L rows accs l)]) := by
  have hn := h.nlen
  have hal := h.alen
  have hl := hw.len
  have hA : Below w.heap.size w (w.alloc (amachO L Na rows.length nc Aa accs.length ac)) := (Below.refl _ _).alloc (Nat.le_refl _) _
  have HA := hid hA
  have HH := hid h
  have HI := hid hw
  have HE := hid (show accB L rows accs l = (decide (wordE L rows accs l = 0) && mA accs (runK rows 0 l l.length)) from rfl)
  have HO := hid (wordE_ok (L := L) (rows := rows) (accs := accs) (l := l))
  have HC := hid (mCheckWord_any L nc ac Na Aa rows accs A l cap _ (h.below hA) (hw.below hA))
  clear h hw
  have c0 : (w.alloc (amachO L Na rows.length nc Aa accs.length ac)).cell? ⟨w.heap.size, 0, none⟩ = some (.int .i64 L) := by go_simp
  have c1 : (w.alloc (amachO L Na rows.length nc Aa accs.length ac)).cell? ⟨w.heap.size, 1, none⟩ = some (.slice Na rows.length nc) := by go_simp
  have c2 : (w.alloc (amachO L Na rows.length nc Aa accs.length ac)).cell? ⟨w.heap.size, 2, none⟩ = some (.slice Aa accs.length ac) := by go_simp
  unfold machV at *
  go_enter Try.func21, Try.ntmps21
  go_wp2_with fail
  refine HC.out.mono ?_
  rintro e w1 ⟨hb1, rfl⟩
  have d0 := (hb1.cell (cell_lt c0)).trans c0
  have d1 := (hb1.cell (cell_lt c1)).trans c1
  have d2 := (hb1.cell (cell_lt c2)).trans c2
  have HB1 := hid (HA.out.trans (hb1.mono HA.out.size))
  clear hb1 c0 c1 c2 hA HC HA
  generalize hv0 : wordE L rows accs l = v at *
  have HV0 := hid hv0
  clear hv0
  by_cases hv : v = 0
  · subst hv
    obtain ⟨hV, hl20, hall, n, rfl⟩ := HO.out rfl
    obtain ⟨hg, _⟩ := vE_ok hV
    have hacc := hg.acc
    have HE := hid (show accB n rows accs l = mA accs (runK rows 0 l l.length) by rw [HE.out]; simp)
    have HT := hid (mTakes_any n nc ac cap Na Aa A rows accs l w1 (HH.out.below HB1.out) hg (HI.out.below HB1.out) hall)
    rw [hacc] at d2
    unfold machV at HT
    clear hV hl20 hall hg hacc HO
    go_wp2_with fail
    refine HT.out.mono ?_
    rintro e w2 ⟨hb2, rfl⟩
    have HB2 := hid (HB1.out.trans (hb2.mono HB1.out.size))
    go_wp2
    go_ret2
    exact ⟨HB2.out, by rw [HE.out, HV0.out]; rfl⟩
  · have HE := hid (show accB L rows accs l = false by rw [HE.out]; simp [hv])
    have hv' : (v != 0) = true := by simpa using hv
    clear hv HO
    go_wp2
    go_ret2
    exact ⟨HB1.out, by rw [HE.out, HV0.out]; rfl⟩
end Go.Proofs.Ytkboeldafppicaa
