/- The document's Accepts; Large: chapter 3. -/
import Derived.Test.YtkboeldafppicaaMRef
set_option linter.unusedVariables false
set_option linter.unusedSimpArgs false
namespace Go.Proofs.Ytkboeldafppicaa
open Go.RowKit

set_option maxRecDepth 100000 in
set_option maxHeartbeats 1000000 in
theorem rBoth_any (L : Int) (nc ac : Nat) (Na Aa : Option Addr) (rows : List (List Int)) (accs : List Bool) (A : Option Addr) (l : List Int) (cap : Nat) (w : World) (h : MachAt w Na rows Aa accs) (hw : Ints w A l) :
    Calls Try.prog 66 #[machV L Na rows.length nc Aa accs.length ac, .slice A l.length cap] w fun e w' => Below w.heap.size w w' ∧ e = .returned (.int .i64 (wordE L rows accs l)) := by
  have hn := h.nlen
  have hal := h.alen
  have hl := hw.len
  have hA : Below w.heap.size w (w.alloc (amachO L Na rows.length nc Aa accs.length ac)) := (Below.refl _ _).alloc (Nat.le_refl _) _
  have HA := hid hA
  have HV := hid (rValidate_any L nc ac Na Aa rows accs _ (h.below hA))
  have HI := hid hw
  have HW := hid (show wordE L rows accs l = if vE L rows accs ≠ 0 then vE L rows accs else lE l L from rfl)
  have hLs : vE L rows accs = 0 → 1 ≤ L ∧ L ≤ 6 := fun hv => by
    unfold vE at hv
    split at hv
    · cases hv
    · rename_i h4; omega
  have HLs := hid hLs
  have c0 : (w.alloc (amachO L Na rows.length nc Aa accs.length ac)).cell? ⟨w.heap.size, 0, none⟩ = some (.int .i64 L) := by go_simp
  clear h hw hA hLs
  unfold machV at *
  go_enter Try.func66, Try.ntmps66
  go_wp2_with fail
  refine HV.out.mono ?_
  rintro e w1 ⟨hb1, rfl⟩
  have d0 := (hb1.cell (cell_lt c0)).trans c0
  have HB1 := hid (HA.out.trans (hb1.mono HA.out.size))
  clear hb1 c0 HV
  generalize vE L rows accs = v at *
  by_cases hv : v = 0
  · subst hv
    have HW := hid (HW.out.trans (if_neg (fun h => h rfl)))
    have hL := HLs.out rfl
    go_wp2_with fail
    refine (rLetters_any A l cap L _ (HI.out.below HB1.out) (by omega)).mono ?_
    rintro e w2 ⟨rfl, rfl⟩
    go_wp2
    go_ret
    exact ⟨HB1.out, by rw [HW.out]; rfl⟩
  · have HW := hid (HW.out.trans (if_pos hv))
    have hv' : (v != 0) = true := by simpa using hv
    clear hv
    go_wp2
    go_ret
    exact ⟨HB1.out, by rw [HW.out]; rfl⟩
set_option maxRecDepth 100000 in
set_option maxHeartbeats 2000000 in
theorem rFrom_any (L s nc ac cap : Nat) (Na Aa A : Option Addr) (rows : List (List Int)) (accs : List Bool) (l : List Int) (w : World) (h : MachAt w Na rows Aa accs) (hg : GoodM L rows accs) (hw : Ints w A l) (hl : allB l L = true) (hs : s < rows.length) :
    Calls Try.prog 67 #[machV L Na rows.length nc Aa rows.length ac, .int .i64 s, .slice A l.length cap] w fun e w' => Below w.heap.size w w' ∧ e = .returned (.int .i64 (runK rows s l l.length : Int)) := by
  have hn := h.nlen
  have hll := hw.len
  have hA : Below w.heap.size w (w.alloc (amachO L Na rows.length nc Aa rows.length ac)) := (Below.refl _ _).alloc (Nat.le_refl _) _
  have HA := hid hA
  have HH := hid h
  have HI := hid hw
  have HG := hid hg
  have HR := hid (fun k hk => runK_lt hg s l hs hl k hk)
  have HL := hid (fun k (hk : k < l.length) => allB_iff.1 hl _ (getD_mem l k hk))
  clear h hg hw hl hs hA
  have c1 : (w.alloc (amachO L Na rows.length nc Aa rows.length ac)).cell? ⟨w.heap.size, 1, none⟩ = some (.slice Na rows.length nc) := by go_simp
  unfold machV
  go_enter Try.func67, Try.ntmps67
  go_wp2
  go_loopw [1, 7] (fun q i wr => ∃ (k : Nat), k ≤ l.length ∧ i = .int .i64 k ∧ q = .int .i64 (runK rows s l k : Int) ∧ Hid (Below w.heap.size w wr) ∧ wr.cell? ⟨w.heap.size, 1, none⟩ = some (.slice Na rows.length nc)) (fun _ i _ => l.length - (intOf i).toNat)
  case atStart => exact ⟨0, Nat.zero_le _, rfl, rfl, HA.out, c1⟩
  case round =>
    clear c1 HA
    obtain ⟨k, hk, rfl, rfl, HB, c1⟩ := hrel
    by_cases hlt : k < l.length
    · have hI := HI.out.below HB.out
      rcases hI.at_ with e | ⟨b, off, rfl, hc⟩
      · rw [e] at hlt; simp at hlt
      have d0 := hc k hlt
      have hlk := HL.out k hlt
      have hrk := HR.out k hk
      have HSt := hid (show runK rows s l (k + 1) = mN rows (runK rows s l k) (l[k]?.getD 0).toNat from rfl)
      clear hI hc
      generalize runK rows s l k = q at *
      obtain ⟨x, hx⟩ := Int.eq_ofNat_of_zero_le hlk.1
      rw [hx] at d0 hlk HSt
      clear hx
      rw [Int.toNat_natCast] at HSt
      have hxL : x < L := by omega
      have hrow := HG.out.row q hrk
      obtain ⟨he1, he2⟩ := HG.out.ent q x hrk hxL
      obtain ⟨b2, o2, g, o, kk, rfl, g1, g2, g3⟩ := (HH.out.below HB.out).row q x hrk (by rw [hrow]; exact hxL)
      rw [he2, ← HSt.out] at g2
      rw [hrow] at g1 g3
      have hq0 : (0 : Int) ≤ (q : Int) := by omega
      have hq1 : (q : Int) < (rows.length : Int) := by omega
      have hx0 : (0 : Int) ≤ (x : Int) := by omega
      have hx1 : (x : Int) < (L : Int) := by omega
      have hki : (k : Int) < (l.length : Int) := by omega
      have hki0 : (0 : Int) ≤ (k : Int) := by omega
      clear hrow he1 he2
      go_wp2_with fail
      go_quiet (fail)
      go_wp2
      go_roundw
      case rel => exact ⟨k + 1, by omega, by go_num, rfl, below_drewN HB.out _, c1⟩
      case measure => simp [intOf]; omega
    · obtain rfl : k = l.length := by omega
      go_wp2
      go_ret
      exact ⟨HB.out, rfl⟩
theorem racS_keep {w0 w w' : World} {pM b oj : Nat} {L rn : Nat} {Na : Option Addr} {nc : Nat} {Aa : Option Addr} {ac : Nat} {x : Bool} (h : w.cell? ⟨pM, 0, none⟩ = some (.int .i64 (L : Int)) ∧ w.cell? ⟨pM, 1, none⟩ = some (.slice Na rn nc) ∧ w.cell? ⟨pM, 2, none⟩ = some (.slice Aa rn ac) ∧ w.cell? ⟨b, oj, none⟩ = some (.bool x) ∧ Below w0.heap.size w0 w) (hb : Below w.heap.size w w') : w'.cell? ⟨pM, 0, none⟩ = some (.int .i64 (L : Int)) ∧ w'.cell? ⟨pM, 1, none⟩ = some (.slice Na rn nc) ∧ w'.cell? ⟨pM, 2, none⟩ = some (.slice Aa rn ac) ∧ w'.cell? ⟨b, oj, none⟩ = some (.bool x) ∧ Below w0.heap.size w0 w' := by
  obtain ⟨h2, h3, h4, h5, h6⟩ := h
  exact ⟨(hb.cell (cell_lt h2)).trans h2, (hb.cell (cell_lt h3)).trans h3, (hb.cell (cell_lt h4)).trans h4, (hb.cell (cell_lt h5)).trans h5, h6.trans (hb.mono h6.size)⟩
set_option maxRecDepth 100000 in
set_option maxHeartbeats 2000000 in
theorem rAccepts_any (L : Int) (nc ac : Nat) (Na Aa : Option Addr) (rows : List (List Int)) (accs : List Bool) (A : Option Addr) (l : List Int) (cap : Nat) (w : World) (h : MachAt w Na rows Aa accs) (hw : Ints w A l) :
    Calls Try.prog 22 #[machV L Na rows.length nc Aa accs.length ac, .slice A l.length cap] w fun e w' => Below w.heap.size w w' ∧ e = .returned (.tuple #[.bool (accB L rows accs l), .int .i64 (wordE L rows accs l)]) := by
  have hn := h.nlen
  have hal := h.alen
  have hl := hw.len
  have hA : Below w.heap.size w (w.alloc (amachO L Na rows.length nc Aa accs.length ac)) := (Below.refl _ _).alloc (Nat.le_refl _) _
  have HA := hid hA
  have HH := hid h
  have HI := hid hw
  have HE := hid (show accB L rows accs l = (decide (wordE L rows accs l = 0) && mA accs (runK rows 0 l l.length)) from rfl)
  have HO := hid (wordE_ok (L := L) (rows := rows) (accs := accs) (l := l))
  have HC := hid (rBoth_any L nc ac Na Aa rows accs A l cap _ (h.below hA) (hw.below hA))
  clear h hw
  have c0 : (w.alloc (amachO L Na rows.length nc Aa accs.length ac)).cell? ⟨w.heap.size, 0, none⟩ = some (.int .i64 L) := by go_simp
  have c1 : (w.alloc (amachO L Na rows.length nc Aa accs.length ac)).cell? ⟨w.heap.size, 1, none⟩ = some (.slice Na rows.length nc) := by go_simp
  have c2 : (w.alloc (amachO L Na rows.length nc Aa accs.length ac)).cell? ⟨w.heap.size, 2, none⟩ = some (.slice Aa accs.length ac) := by go_simp
  unfold machV at *
  go_enter Try.func22, Try.ntmps22
  go_wp2_with fail
  refine HC.out.mono ?_
  rintro e w1 ⟨hb1, rfl⟩
  have d0 := (hb1.cell (cell_lt c0)).trans c0
  have d1 := (hb1.cell (cell_lt c1)).trans c1
  have d2 := (hb1.cell (cell_lt c2)).trans c2
  have HB1 := hid (HA.out.trans (hb1.mono HA.out.size))
  clear hb1 c0 c1 c2 hA HC HA
  generalize hv0 : wordE L rows accs l = v at *
  have HV0 := hid hv0
  clear hv0
  by_cases hv : v = 0
  · subst hv
    obtain ⟨hV, hl20, hall, n, rfl⟩ := HO.out rfl
    obtain ⟨hg, _⟩ := vE_ok hV
    have hacc := hg.acc
    have HE := hid (show accB n rows accs l = mA accs (runK rows 0 l l.length) by rw [HE.out]; simp)
    have HT := hid (fun wx (hb : Below w1.heap.size w1 wx) => rFrom_any n 0 nc ac cap Na Aa A rows accs l wx ((HH.out.below HB1.out).below hb) hg ((HI.out.below HB1.out).below hb) hall hg.pos)
    have hrl := runK_lt hg 0 l hg.pos hall l.length (Nat.le_refl _)
    rw [hacc] at d2
    rcases (HH.out.below HB1.out).aat with e | ⟨ba, oa, rfl, hca⟩
    · rw [e] at hacc; simp at hacc; omega
    have d3 := hca (runK rows 0 l l.length) (by omega)
    have HMa := hid (show accs[runK rows 0 l l.length]?.getD false = mA accs (runK rows 0 l l.length) from rfl)
    rw [HMa.out] at d3
    unfold machV at HT
    clear hV hl20 hall hg hacc HO hca HMa
    generalize hbz : mA accs (runK rows 0 l l.length) = bz at *
    clear hbz
    generalize runK rows 0 l l.length = q at *
    have hq0 : (0 : Int) ≤ (q : Int) := by omega
    have hq1 : (q : Int) < (rows.length : Int) := by omega
    have S0 := hid (show _ ∧ _ ∧ _ ∧ _ ∧ _ from ⟨d0, d1, d2, d3, Below.refl w1.heap.size w1⟩)
    clear d0 d1 d2 d3
    go_wp2_with fail
    go_region_held3 (fun w' => w'.cell? ⟨w.heap.size, 0, none⟩ = some (.int .i64 (n : Int)) ∧ w'.cell? ⟨w.heap.size, 1, none⟩ = some (.slice Na rows.length nc) ∧ w'.cell? ⟨w.heap.size, 2, none⟩ = some (.slice (some ⟨ba, oa, none⟩) rows.length ac) ∧ w'.cell? ⟨ba, oa + q, none⟩ = some (.bool bz) ∧ Below w1.heap.size w1 w') (first | exact racS_keep S0.out (Below.refl _ _).drew | exact S0.out | exact racS_keep (by assumption) (by assumption)) ((go_at_call 67; refine (HT.out _ ?_).mono ?_; (exact (And.right (And.right (And.right (And.right (by assumption)))))); rintro e w5 ⟨hb5, rfl⟩))
    rename _ ∧ _ => hHeld
    have HBz := hid (HB1.out.trans (hHeld.2.2.2.2.mono HB1.out.size))
    clear hb5 hHeld S0 HT
    go_wp2
    go_ret2
    exact ⟨HBz.out, by rw [HE.out, HV0.out]; rfl⟩
  · have HE := hid (show accB L rows accs l = false by rw [HE.out]; simp [hv])
    have hv' : (v != 0) = true := by simpa using hv
    clear hv HO
    go_wp2
    go_ret2
    exact ⟨HB1.out, by rw [HE.out, HV0.out]; rfl⟩
end Go.Proofs.Ytkboeldafppicaa
