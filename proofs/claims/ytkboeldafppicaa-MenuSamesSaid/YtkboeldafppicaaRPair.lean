/- What the document tests of two machines; a truth as a number: chapter 3. -/
import Derived.Test.YtkboeldafppicaaPlD
import Derived.Test.YtkboeldafppicaaMAcc
import Derived.Test.YtkboeldafppicaaMRef
set_option linter.unusedVariables false
set_option linter.unusedSimpArgs false
namespace Go.Proofs.Ytkboeldafppicaa
open Go.RowKit

def bitN (b : Bool) : Nat := if b then 1 else 0
theorem rBit_any (b : Bool) (w : World) : Calls Try.prog 127 #[.bool b] w fun e w' => w' = w ∧ e = .returned (.int .i64 (bitN b : Int)) := by
  cases b with
  | true =>
    go_enter Try.func127, Try.ntmps127
    go_wp2
    go_ret
    exact ⟨rfl, rfl⟩
  | false =>
    go_enter Try.func127, Try.ntmps127
    go_wp2
    go_ret
    exact ⟨rfl, rfl⟩
set_option maxRecDepth 100000 in
set_option maxHeartbeats 1000000 in
theorem rPair_any (L : Int) (nc ac : Nat) (Na Aa : Option Addr) (rows : List (List Int)) (accs : List Bool) (L' : Int) (nc' ac' : Nat) (Na' Aa' : Option Addr) (rows' : List (List Int)) (accs' : List Bool) (w : World) (h : MachAt w Na rows Aa accs) (h' : MachAt w Na' rows' Aa' accs') :
    Calls Try.prog 85 #[machV L Na rows.length nc Aa accs.length ac, machV L' Na' rows'.length nc' Aa' accs'.length ac'] w fun e w' => Below w.heap.size w w' ∧ e = .returned (.int .i64 (twoE L rows accs L' rows' accs')) := by
  have hA : Below w.heap.size w ((w.alloc (amachO L Na rows.length nc Aa accs.length ac)).alloc (amachO L' Na' rows'.length nc' Aa' accs'.length ac')) := ((Below.refl _ _).alloc (Nat.le_refl _) _).alloc (by simp) _
  have hb01 : Below (w.alloc (amachO L Na rows.length nc Aa accs.length ac)).heap.size (w.alloc (amachO L Na rows.length nc Aa accs.length ac)) ((w.alloc (amachO L Na rows.length nc Aa accs.length ac)).alloc (amachO L' Na' rows'.length nc' Aa' accs'.length ac')) := (Below.refl _ _).alloc (Nat.le_refl _) _
  have HX := hid ((BoxM.made w L Na rows.length nc Aa accs.length ac).below hb01)
  have HX' := hid (BoxM.made (w.alloc (amachO L Na rows.length nc Aa accs.length ac)) L' Na' rows'.length nc' Aa' accs'.length ac')
  rw [World.size_alloc] at HX'
  have HA := hid hA
  have HH := hid (h.below hA)
  have HH' := hid (h'.below hA)
  have HW := hid (show twoE L rows accs L' rows' accs' = if vE L rows accs ≠ 0 then vE L rows accs else if vE L' rows' accs' ≠ 0 then vE L' rows' accs' else if L ≠ L' then 1 else 0 from rfl)
  have HV := hid (rValidate_any L nc ac Na Aa rows accs _ HH.out)
  clear h h' hA hb01
  unfold machV at HV ⊢
  go_enter Try.func85, Try.ntmps85
  have e0 := HX.out.c0
  have e1 := HX.out.c1
  have e2 := HX.out.c2
  go_wp2_with fail
  refine HV.out.mono ?_
  rintro e w1 ⟨hb1, rfl⟩
  clear HV e0 e1 e2
  generalize (w.alloc (amachO L Na rows.length nc Aa accs.length ac)).alloc (amachO L' Na' rows'.length nc' Aa' accs'.length ac') = wb at *
  have HX := hid (HX.out.below hb1)
  have HX' := hid (HX'.out.below hb1)
  have HH' := hid (HH'.out.below hb1)
  have HB := hid (HA.out.trans (hb1.mono HA.out.size))
  clear hb1 HH HA
  have HV := hid (rValidate_any L' nc' ac' Na' Aa' rows' accs' _ HH'.out)
  unfold machV at HV
  generalize vE L rows accs = v at *
  by_cases hv : v = 0
  · subst hv
    have HW := hid (HW.out.trans (if_neg (fun h => h rfl)))
    have e0 := HX'.out.c0
    have e1 := HX'.out.c1
    have e2 := HX'.out.c2
    go_wp2_with fail
    refine HV.out.mono ?_
    rintro e w2 ⟨hb2, rfl⟩
    clear HV e0 e1 e2
    have HX := hid (HX.out.below hb2)
    have HX' := hid (HX'.out.below hb2)
    have HB := hid (HB.out.trans (hb2.mono HB.out.size))
    have e0 := HX.out.c0
    have d0 := HX'.out.c0
    clear hb2
    generalize vE L' rows' accs' = v' at *
    by_cases hv : v' = 0
    · subst hv
      have HW := hid (HW.out.trans (if_neg (fun h => h rfl)))
      by_cases hL : L = L'
      · have HW := hid (HW.out.trans (if_neg (fun h => h hL)))
        have hL' : (L != L') = false := by simpa using hL
        clear hL
        go_wp2
        go_ret
        exact ⟨HB.out, by rw [HW.out]; rfl⟩
      · have HW := hid (HW.out.trans (if_pos hL))
        have hL' : (L != L') = true := by simpa using hL
        clear hL
        go_wp2
        go_ret
        exact ⟨HB.out, by rw [HW.out]; rfl⟩
    · have HW := hid (HW.out.trans (if_pos hv))
      have hv' : (v' != 0) = true := by simpa using hv
      clear hv
      go_wp2
      go_ret
      exact ⟨HB.out, by rw [HW.out]; rfl⟩
  · have HW := hid (HW.out.trans (if_pos hv))
    have hv' : (v != 0) = true := by simpa using hv
    clear hv
    go_wp2
    go_ret
    exact ⟨HB.out, by rw [HW.out]; rfl⟩
end Go.Proofs.Ytkboeldafppicaa
