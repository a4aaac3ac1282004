/- What the program and the document test of a machine, a length and points. -/
import Derived.Test.YtkboeldafppicaaMRefC
set_option linter.unusedVariables false
set_option linter.unusedSimpArgs false
namespace Go.Proofs.Ytkboeldafppicaa
open Go.RowKit

def ptE (L : Int) (rows : List (List Int)) (accs : List Bool) (n : Int) (ps : List Int) : Int := if lenE L rows accs n ≠ 0 then lenE L rows accs n else if (ps.length : Int) ≠ L then 1 else if allB ps 21 = true then 0 else 1
theorem ptE_ok {L : Int} {rows : List (List Int)} {accs : List Bool} {n : Int} {ps : List Int} (h : ptE L rows accs n ps = 0) : lenE L rows accs n = 0 ∧ (ps.length : Int) = L ∧ allB ps 21 = true := by
  unfold ptE at h
  split at h
  · rename_i h1; exact absurd h h1
  · rename_i h1
    split at h
    · cases h
    · rename_i h2
      split at h
      · rename_i h3; exact ⟨Classical.byContradiction h1, Classical.byContradiction h2, h3⟩
      · cases h
set_option maxRecDepth 100000 in
set_option maxHeartbeats 1000000 in
theorem mCheckPoints_any (L : Int) (nc ac : Nat) (Na Aa : Option Addr) (rows : List (List Int)) (accs : List Bool) (n : Int) (A : Option Addr) (ps : List Int) (cap : Nat) (w : World) (h : MachAt w Na rows Aa accs) (hp : Ints w A ps) :
    Calls Try.prog 110 #[machV L Na rows.length nc Aa accs.length ac, .int .i64 n, .slice A ps.length cap] w fun e w' => Below w.heap.size w w' ∧ e = .returned (.int .i64 (ptE L rows accs n ps)) := by
  have hn := h.nlen
  have hal := h.alen
  have hpl := hp.len
  have hA : Below w.heap.size w (w.alloc (amachO L Na rows.length nc Aa accs.length ac)) := (Below.refl _ _).alloc (Nat.le_refl _) _
  have HA := hid hA
  have HH := hid (h.below hA)
  have HP := hid (hp.below hA)
  have HW := hid (show ptE L rows accs n ps = if lenE L rows accs n ≠ 0 then lenE L rows accs n else if (ps.length : Int) ≠ L then 1 else if allB ps 21 = true then 0 else 1 from rfl)
  have HC := hid (mCheckLength_any L nc ac Na Aa rows accs n _ HH.out)
  have c0 : (w.alloc (amachO L Na rows.length nc Aa accs.length ac)).cell? ⟨w.heap.size, 0, none⟩ = some (.int .i64 L) := by go_simp
  clear h hp hA
  unfold machV at *
  go_enter Try.func110, Try.ntmps110
  go_wp2_with fail
  refine HC.out.mono ?_
  rintro e w1 ⟨hb1, rfl⟩
  have d0 := (hb1.cell (cell_lt c0)).trans c0
  have HB1 := hid (HA.out.trans (hb1.mono HA.out.size))
  have HP1 := hid (HP.out.below hb1)
  clear hb1 c0 HC HA HP HH
  generalize lenE L rows accs n = v at *
  by_cases hv : v = 0
  · subst hv
    have HW := hid (HW.out.trans (if_neg (fun h => h rfl)))
    by_cases hl : (ps.length : Int) = L
    · have HW := hid (HW.out.trans (if_neg (fun h => h hl)))
      have hl' : ((ps.length : Int) != L) = false := by simpa using hl
      have HAb := hid (mAreBelow_any A ps cap 21 w1 HP1.out)
      have HLl := hid hl
      clear hl
      go_wp2_with fail
      refine HAb.out.mono ?_
      rintro e w2 ⟨rfl, rfl⟩
      cases hb : allB ps 21 with
      | true =>
        have HW := hid (HW.out.trans (if_pos hb))
        clear hb
        go_wp2
        go_ret
        exact ⟨HB1.out, by rw [HW.out]; rfl⟩
      | false =>
        have HW := hid (HW.out.trans (if_neg (by rw [hb]; simp)))
        clear hb
        go_wp2
        go_ret
        exact ⟨HB1.out, by rw [HW.out]; rfl⟩
    · have HW := hid (HW.out.trans (if_pos hl))
      have hl' : ((ps.length : Int) != L) = true := by simpa using hl
      clear hl
      go_wp2
      go_ret
      exact ⟨HB1.out, by rw [HW.out]; rfl⟩
  · have HW := hid (HW.out.trans (if_pos hv))
    have hv' : (v != 0) = true := by simpa using hv
    clear hv
    go_wp2
    go_ret
    exact ⟨HB1.out, by rw [HW.out]; rfl⟩
set_option maxRecDepth 100000 in
set_option maxHeartbeats 1000000 in
theorem rScored_any (L : Int) (nc ac : Nat) (Na Aa : Option Addr) (rows : List (List Int)) (accs : List Bool) (n : Int) (A : Option Addr) (ps : List Int) (cap : Nat) (w : World) (h : MachAt w Na rows Aa accs) (hp : Ints w A ps) :
    Calls Try.prog 113 #[machV L Na rows.length nc Aa accs.length ac, .int .i64 n, .slice A ps.length cap] w fun e w' => Below w.heap.size w w' ∧ e = .returned (.int .i64 (ptE L rows accs n ps)) := by
  have hn := h.nlen
  have hal := h.alen
  have hpl := hp.len
  have hA : Below w.heap.size w (w.alloc (amachO L Na rows.length nc Aa accs.length ac)) := (Below.refl _ _).alloc (Nat.le_refl _) _
  have HA := hid hA
  have HH := hid (h.below hA)
  have HP := hid (hp.below hA)
  have HW := hid (show ptE L rows accs n ps = if lenE L rows accs n ≠ 0 then lenE L rows accs n else if (ps.length : Int) ≠ L then 1 else if allB ps 21 = true then 0 else 1 from rfl)
  have HC := hid (rSized_any L nc ac Na Aa rows accs n _ HH.out)
  have c0 : (w.alloc (amachO L Na rows.length nc Aa accs.length ac)).cell? ⟨w.heap.size, 0, none⟩ = some (.int .i64 L) := by go_simp
  clear h hp hA
  unfold machV at *
  go_enter Try.func113, Try.ntmps113
  go_wp2_with fail
  refine HC.out.mono ?_
  rintro e w1 ⟨hb1, rfl⟩
  have d0 := (hb1.cell (cell_lt c0)).trans c0
  have HB1 := hid (HA.out.trans (hb1.mono HA.out.size))
  have HP1 := hid (HP.out.below hb1)
  clear hb1 c0 HC HA HP HH
  generalize lenE L rows accs n = v at *
  by_cases hv : v = 0
  · subst hv
    have HW := hid (HW.out.trans (if_neg (fun h => h rfl)))
    by_cases hl : (ps.length : Int) = L
    · have HL := hid (HW.out.trans (if_neg (fun h => h hl)))
      have hl' : ((ps.length : Int) != L) = false := by simpa using hl
      have HLl := hid hl
      clear hl HW
      go_wp2
      clear d0 hl'
      obtain ⟨wo, hwo⟩ : ∃ x, x = w1 := ⟨_, rfl⟩
      subst hwo
      go_loopw [8] (fun i wr => ∃ (k : Nat), k ≤ ps.length ∧ i = .int .i64 k ∧ Hid (allB (ps.take k) 21 = true) ∧ Hid (wr = wo)) (fun i _ => ps.length - (intOf i).toNat)
      case atStart => exact ⟨0, Nat.zero_le _, rfl, rfl, rfl⟩
      case round =>
        obtain ⟨k, hk, rfl, HT, HWo⟩ := hrel
        by_cases hlt : k < ps.length
        · rcases HP1.out.at_ with e | ⟨b, off, rfl, hc⟩
          · rw [e] at hlt; simp at hlt
          have c0 := hc k hlt
          rw [← HWo.out] at c0
          have hT := hid (fun hx => allB_take (n := 21) HT.out hlt hx)
          have hBd := hid (fun hx => allB_bad (n := 21) hlt hx)
          clear hc HT
          generalize ps[k]?.getD 0 = x at *
          by_cases hx : 0 ≤ x ∧ x < 21
          · have HT2 := hid (hT.out hx)
            have hd : decide ((0 : Int) ≤ x ∧ x ≤ 20) = true := by simp; omega
            clear hT hBd
            go_wp2_with fail
            refine (rWithin_any x 0 20 _).mono ?_
            rintro e w2 ⟨rfl, rfl⟩
            rw [hd]
            clear hd hx
            go_wp2
            go_roundw
            case rel => exact ⟨k + 1, by omega, by go_num, HT2.out, HWo.out⟩
            case measure => simp [intOf]; omega
          · have HBb := hid (hBd.out hx)
            have hd : decide ((0 : Int) ≤ x ∧ x ≤ 20) = false := by simp; omega
            clear hT hBd
            go_wp2_with fail
            refine (rWithin_any x 0 20 _).mono ?_
            rintro e w2 ⟨rfl, rfl⟩
            rw [hd]
            clear hd hx
            go_wp2
            go_ret
            exact ⟨by rw [HWo.out]; exact HB1.out, by rw [HL.out, HBb.out]; rfl⟩
        · obtain rfl : k = ps.length := by omega
          have hT := HT.out
          rw [List.take_length] at hT
          have HT := hid hT
          clear hT
          go_wp2
          go_ret
          exact ⟨by rw [HWo.out]; exact HB1.out, by rw [HL.out, HT.out]; rfl⟩
    · have HW := hid (HW.out.trans (if_pos hl))
      have hl' : ((ps.length : Int) != L) = true := by simpa using hl
      clear hl
      go_wp2
      go_ret
      exact ⟨HB1.out, by rw [HW.out]; rfl⟩
  · have HW := hid (HW.out.trans (if_pos hv))
    have hv' : (v != 0) = true := by simpa using hv
    clear hv
    go_wp2
    go_ret
    exact ⟨HB1.out, by rw [HW.out]; rfl⟩
end Go.Proofs.Ytkboeldafppicaa
