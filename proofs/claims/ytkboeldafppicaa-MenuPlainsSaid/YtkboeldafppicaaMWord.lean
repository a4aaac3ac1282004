/- Errors of words, lengths and pairs of machines; where a word leads: package menu. -/
import Derived.Test.YtkboeldafppicaaMChk
import Derived.Deep.RegionHeld3
set_option linter.unusedVariables false
set_option linter.unusedSimpArgs false
namespace Go.Proofs.Ytkboeldafppicaa
open Go.RowKit

def lE (word : List Int) (n : Int) : Int := if 20 < word.length then 4 else if allB word n = true then 0 else 1
def wordE (L : Int) (rows : List (List Int)) (accs : List Bool) (word : List Int) : Int := if vE L rows accs ≠ 0 then vE L rows accs else lE word L
def lenE (L : Int) (rows : List (List Int)) (accs : List Bool) (n : Int) : Int := if vE L rows accs ≠ 0 then vE L rows accs else if n < 0 ∨ 20 < n then 1 else 0
def twoE (L : Int) (rows : List (List Int)) (accs : List Bool) (L' : Int) (rows' : List (List Int)) (accs' : List Bool) : Int := if vE L rows accs ≠ 0 then vE L rows accs else if vE L' rows' accs' ≠ 0 then vE L' rows' accs' else if L ≠ L' then 1 else 0
set_option maxRecDepth 100000 in
set_option maxHeartbeats 1000000 in
theorem mCheckLetters_any (A : Option Addr) (l : List Int) (cap : Nat) (n : Int) (w : World) (h : Ints w A l) : Calls Try.prog 115 #[.slice A l.length cap, .int .i64 n] w fun e w' => w' = w ∧ e = .returned (.int .i64 (lE l n)) := by
  have hl := h.len
  have HL := hid (show lE l n = if 20 < l.length then 4 else if allB l n = true then 0 else 1 from rfl)
  by_cases h1 : 20 < l.length
  · have HL := hid (HL.out.trans (if_pos h1))
    have h1' : (20 : Int) < (l.length : Int) := by omega
    clear h
    go_enter Try.func115, Try.ntmps115
    go_wp2
    go_ret
    exact ⟨rfl, by rw [HL.out]; rfl⟩
  · have HL := hid (HL.out.trans (if_neg h1))
    have h1' : ¬ (20 : Int) < (l.length : Int) := by omega
    have HH := hid h
    clear h h1
    go_enter Try.func115, Try.ntmps115
    go_wp2_with fail
    refine (mAreBelow_any A l cap n w HH.out).mono ?_
    rintro e w1 ⟨rfl, rfl⟩
    cases hb : allB l n with
    | true =>
      rw [hb] at HL
      clear hb
      go_wp2
      go_ret
      exact ⟨rfl, by rw [HL.out]; rfl⟩
    | false =>
      rw [hb] at HL
      clear hb
      go_wp2
      go_ret
      exact ⟨rfl, by rw [HL.out]; rfl⟩
set_option maxRecDepth 100000 in
set_option maxHeartbeats 1000000 in
theorem mCheckWord_any (L : Int) (nc ac : Nat) (Na Aa : Option Addr) (rows : List (List Int)) (accs : List Bool) (A : Option Addr) (l : List Int) (cap : Nat) (w : World) (h : MachAt w Na rows Aa accs) (hw : Ints w A l) :
    Calls Try.prog 64 #[machV L Na rows.length nc Aa accs.length ac, .slice A l.length cap] w fun e w' => Below w.heap.size w w' ∧ e = .returned (.int .i64 (wordE L rows accs l)) := by
  have hn := h.nlen
  have hal := h.alen
  have hl := hw.len
  have hA : Below w.heap.size w (w.alloc (amachO L Na rows.length nc Aa accs.length ac)) := (Below.refl _ _).alloc (Nat.le_refl _) _
  have hB := hid (hA.alloc hA.size (amachO L Na rows.length nc Aa accs.length ac))
  have HH := hid (h.below hA)
  have HI := hid (hw.below hB.out)
  have HW := hid (show wordE L rows accs l = if vE L rows accs ≠ 0 then vE L rows accs else lE l L from rfl)
  have hc := vE_cases L rows accs
  clear h hw hA
  unfold machV
  go_enter Try.func64, Try.ntmps64
  go_wp2_with fail
  refine (mValidate_any L nc ac Na Aa rows accs _ HH.out).mono ?_
  rintro e w1 ⟨rfl, rfl⟩
  generalize vE L rows accs = v at *
  by_cases hv : v = 0
  · subst hv
    have HW := hid (HW.out.trans (if_neg (fun h => h rfl)))
    go_wp2_with fail
    refine (mCheckLetters_any A l cap L _ HI.out).mono ?_
    rintro e w2 ⟨rfl, rfl⟩
    go_wp2
    go_ret
    exact ⟨hB.out, by rw [HW.out]; rfl⟩
  · have HW := hid (HW.out.trans (if_pos hv))
    have hv' : (v != 0) = true := by simpa using hv
    clear hv hc
    go_wp2
    go_ret
    exact ⟨hB.out, by rw [HW.out]; rfl⟩
set_option maxRecDepth 100000 in
set_option maxHeartbeats 1000000 in
theorem mCheckLength_any (L : Int) (nc ac : Nat) (Na Aa : Option Addr) (rows : List (List Int)) (accs : List Bool) (n : Int) (w : World) (h : MachAt w Na rows Aa accs) :
    Calls Try.prog 105 #[machV L Na rows.length nc Aa accs.length ac, .int .i64 n] w fun e w' => Below w.heap.size w w' ∧ e = .returned (.int .i64 (lenE L rows accs n)) := by
  have hn := h.nlen
  have hal := h.alen
  have hA : Below w.heap.size w (w.alloc (amachO L Na rows.length nc Aa accs.length ac)) := (Below.refl _ _).alloc (Nat.le_refl _) _
  have hB := hid (hA.alloc hA.size (amachO L Na rows.length nc Aa accs.length ac))
  have HH := hid (h.below hA)
  have HW := hid (show lenE L rows accs n = if vE L rows accs ≠ 0 then vE L rows accs else if n < 0 ∨ 20 < n then 1 else 0 from rfl)
  have hc := vE_cases L rows accs
  clear h hA
  unfold machV
  go_enter Try.func105, Try.ntmps105
  go_wp2_with fail
  refine (mValidate_any L nc ac Na Aa rows accs _ HH.out).mono ?_
  rintro e w1 ⟨rfl, rfl⟩
  generalize vE L rows accs = v at *
  by_cases hv : v = 0
  · subst hv
    have HW := hid (HW.out.trans (if_neg (fun h => h rfl)))
    clear hc
    by_cases h1 : n < 0
    · have HW := hid (HW.out.trans (if_pos (.inl h1)))
      go_wp2
      go_ret
      exact ⟨hB.out, by rw [HW.out]; rfl⟩
    · by_cases h2 : 20 < n
      · have HW := hid (HW.out.trans (if_pos (.inr h2)))
        go_wp2
        go_ret
        exact ⟨hB.out, by rw [HW.out]; rfl⟩
      · have HW := hid (HW.out.trans (if_neg (by omega)))
        go_wp2
        go_ret
        exact ⟨hB.out, by rw [HW.out]; rfl⟩
  · have HW := hid (HW.out.trans (if_pos hv))
    have hv' : (v != 0) = true := by simpa using hv
    clear hv hc
    go_wp2
    go_ret
    exact ⟨hB.out, by rw [HW.out]; rfl⟩
set_option maxRecDepth 100000 in
set_option maxHeartbeats 1000000 in
theorem mCheckTwo_any (L : Int) (nc ac : Nat) (Na Aa : Option Addr) (rows : List (List Int)) (accs : List Bool) (L' : Int) (nc' ac' : Nat) (Na' Aa' : Option Addr) (rows' : List (List Int)) (accs' : List Bool) (w : World) (h : MachAt w Na rows Aa accs) (h' : MachAt w Na' rows' Aa' accs') :
    Calls Try.prog 75 #[machV L Na rows.length nc Aa accs.length ac, machV L' Na' rows'.length nc' Aa' accs'.length ac'] w fun e w' => Below w.heap.size w w' ∧ e = .returned (.int .i64 (twoE L rows accs L' rows' accs')) := by
  have hn := h.nlen
  have hal := h.alen
  have hn' := h'.nlen
  have hal' := h'.alen
  have hA : Below w.heap.size w ((w.alloc (amachO L Na rows.length nc Aa accs.length ac)).alloc (amachO L' Na' rows'.length nc' Aa' accs'.length ac')) := ((Below.refl _ _).alloc (Nat.le_refl _) _).alloc (by simp) _
  have hB : Below w.heap.size w (((w.alloc (amachO L Na rows.length nc Aa accs.length ac)).alloc (amachO L' Na' rows'.length nc' Aa' accs'.length ac')).alloc (amachO L Na rows.length nc Aa accs.length ac)) := hA.alloc hA.size _
  have HB := hid hB
  have HC := hid (hB.alloc hB.size (amachO L' Na' rows'.length nc' Aa' accs'.length ac'))
  have HH := hid (h.below hA)
  have HH' := hid (h'.below hB)
  have HW := hid (show twoE L rows accs L' rows' accs' = if vE L rows accs ≠ 0 then vE L rows accs else if vE L' rows' accs' ≠ 0 then vE L' rows' accs' else if L ≠ L' then 1 else 0 from rfl)
  clear h h' hA hB
  unfold machV
  go_enter Try.func75, Try.ntmps75
  go_wp2_with fail
  refine (mValidate_any L nc ac Na Aa rows accs _ HH.out).mono ?_
  rintro e w1 ⟨rfl, rfl⟩
  generalize vE L rows accs = v at *
  by_cases hv : v = 0
  · subst hv
    have HW := hid (HW.out.trans (if_neg (fun h => h rfl)))
    go_wp2_with fail
    refine (mValidate_any L' nc' ac' Na' Aa' rows' accs' _ HH'.out).mono ?_
    rintro e w2 ⟨rfl, rfl⟩
    generalize vE L' rows' accs' = v' at *
    by_cases hv : v' = 0
    · subst hv
      have HW := hid (HW.out.trans (if_neg (fun h => h rfl)))
      by_cases hL : L = L'
      · have HW := hid (HW.out.trans (if_neg (fun h => h hL)))
        have hL' : (L != L') = false := by simpa using hL
        clear hL
        go_wp2
        go_ret
        exact ⟨HC.out, by rw [HW.out]; rfl⟩
      · have HW := hid (HW.out.trans (if_pos hL))
        have hL' : (L != L') = true := by simpa using hL
        clear hL
        go_wp2
        go_ret
        exact ⟨HC.out, by rw [HW.out]; rfl⟩
    · have HW := hid (HW.out.trans (if_pos hv))
      have hv' : (v' != 0) = true := by simpa using hv
      clear hv
      go_wp2
      go_ret
      exact ⟨HC.out, by rw [HW.out]; rfl⟩
  · have HW := hid (HW.out.trans (if_pos hv))
    have hv' : (v != 0) = true := by simpa using hv
    clear hv
    go_wp2
    go_ret
    exact ⟨HB.out, by rw [HW.out]; rfl⟩
end Go.Proofs.Ytkboeldafppicaa
