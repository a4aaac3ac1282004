/- The document's Count and Rank: chapter 3. -/
import Derived.Test.YtkboeldafppicaaRTabM
import Derived.Test.YtkboeldafppicaaMRkM
import Derived.BigQuiet
set_option linter.unusedVariables false
set_option linter.unusedSimpArgs false
namespace Go.Proofs.Ytkboeldafppicaa
open Go.RowKit

set_option maxRecDepth 100000 in
set_option maxHeartbeats 1000000 in
theorem rSized_any (L : Int) (nc ac : Nat) (Na Aa : Option Addr) (rows : List (List Int)) (accs : List Bool) (n : Int) (w : World) (h : MachAt w Na rows Aa accs) :
    Calls Try.prog 107 #[machV L Na rows.length nc Aa accs.length ac, .int .i64 n] w fun e w' => Below w.heap.size w w' ∧ e = .returned (.int .i64 (lenE L rows accs n)) := by
  have hn := h.nlen
  have hal := h.alen
  have hA : Below w.heap.size w (w.alloc (amachO L Na rows.length nc Aa accs.length ac)) := (Below.refl _ _).alloc (Nat.le_refl _) _
  have HA := hid hA
  have HV := hid (rValidate_any L nc ac Na Aa rows accs _ (h.below hA))
  have HW := hid (show lenE L rows accs n = if vE L rows accs ≠ 0 then vE L rows accs else if n < 0 ∨ 20 < n then 1 else 0 from rfl)
  clear h hA
  unfold machV at *
  go_enter Try.func107, Try.ntmps107
  go_wp2_with fail
  refine HV.out.mono ?_
  rintro e w1 ⟨hb1, rfl⟩
  have HB1 := hid (HA.out.trans (hb1.mono HA.out.size))
  clear hb1 HV
  generalize vE L rows accs = v at *
  by_cases hv : v = 0
  · subst hv
    have HW := hid (HW.out.trans (if_neg (fun h => h rfl)))
    go_wp2_with fail
    refine (rWithin_any n 0 20 _).mono ?_
    rintro e w2 ⟨rfl, rfl⟩
    by_cases h1 : n < 0 ∨ 20 < n
    · have HW := hid (HW.out.trans (if_pos h1))
      have hd : decide (0 ≤ n ∧ n ≤ 20) = false := by simp; omega
      rw [hd]
      clear hd h1
      go_wp2
      go_ret
      exact ⟨HB1.out, by rw [HW.out]; rfl⟩
    · have HW := hid (HW.out.trans (if_neg h1))
      have hd : decide (0 ≤ n ∧ n ≤ 20) = true := by simp; omega
      rw [hd]
      clear hd h1
      go_wp2
      go_ret
      exact ⟨HB1.out, by rw [HW.out]; rfl⟩
  · have HW := hid (HW.out.trans (if_pos hv))
    have hv' : (v != 0) = true := by simpa using hv
    clear hv
    go_wp2
    go_ret
    exact ⟨HB1.out, by rw [HW.out]; rfl⟩
set_option maxRecDepth 100000 in
set_option maxHeartbeats 4000000 in
theorem rCount_any (L : Int) (nc ac : Nat) (Na Aa : Option Addr) (rows : List (List Int)) (accs : List Bool) (n : Int) (w : World) (h : MachAt w Na rows Aa accs) :
    Calls Try.prog 49 #[machV L Na rows.length nc Aa accs.length ac, .int .i64 n] w fun e w' => Below w.heap.size w w' ∧ e = .returned (.tuple #[.int .i64 (cntA L rows accs n), .int .i64 (lenE L rows accs n)]) := by
  have hn := h.nlen
  have hal := h.alen
  have hA : Below w.heap.size w (w.alloc (amachO L Na rows.length nc Aa accs.length ac)) := (Below.refl _ _).alloc (Nat.le_refl _) _
  have HA := hid hA
  have HH := hid h
  have HE := hid (show cntA L rows accs n = if lenE L rows accs n = 0 then wT L.toNat rows accs n.toNat 0 else 0 from rfl)
  have HO := hid (lenE_ok (L := L) (rows := rows) (accs := accs) (n := n))
  have HC := hid (rSized_any L nc ac Na Aa rows accs n _ (h.below hA))
  clear h
  have c0 : (w.alloc (amachO L Na rows.length nc Aa accs.length ac)).cell? ⟨w.heap.size, 0, none⟩ = some (.int .i64 L) := by go_simp
  have c1 : (w.alloc (amachO L Na rows.length nc Aa accs.length ac)).cell? ⟨w.heap.size, 1, none⟩ = some (.slice Na rows.length nc) := by go_simp
  have c2 : (w.alloc (amachO L Na rows.length nc Aa accs.length ac)).cell? ⟨w.heap.size, 2, none⟩ = some (.slice Aa accs.length ac) := by go_simp
  unfold machV at *
  go_enter Try.func49, Try.ntmps49
  go_wp2_with fail
  refine HC.out.mono ?_
  rintro e w1 ⟨hb1, rfl⟩
  have d0 := (hb1.cell (cell_lt c0)).trans c0
  have d1 := (hb1.cell (cell_lt c1)).trans c1
  have d2 := (hb1.cell (cell_lt c2)).trans c2
  have HB1 := hid (HA.out.trans (hb1.mono HA.out.size))
  clear hb1 c0 c1 c2 hA HC HA
  generalize hv0 : lenE L rows accs n = v at *
  have HV0 := hid hv0
  clear hv0
  by_cases hv : v = 0
  · subst hv
    obtain ⟨hV, ⟨m, rfl, hm⟩, l, rfl⟩ := HO.out rfl
    obtain ⟨hg, h64⟩ := vE_ok hV
    have hpos := hg.pos
    have hacc := hg.acc
    have HE := hid (show cntA l rows accs m = wT l rows accs m 0 by rw [HE.out, if_pos rfl, Int.toNat_natCast, Int.toNat_natCast])
    have HT := hid (rTable_any l m nc ac Na Aa rows accs w1 (HH.out.below HB1.out) hg hm (by omega))
    rw [hacc] at d2
    unfold machV at HT
    clear hV hg hacc HO
    go_wp2_with fail
    refine HT.out.mono ?_
    rintro e w2 ⟨hb2, vT, G, rfl, hT⟩
    have HB2 := hid (HB1.out.trans (hb2.mono HB1.out.size))
    obtain ⟨gT, cT, hvT, hcT⟩ := hT.form (by omega)
    subst hvT
    have e1 := hcT m (by omega)
    have e2 := hT.get m 0 (by omega) hpos
    have hmi : (m : Int) < (m : Int) + 1 := by omega
    clear hT hb2 HT hcT
    go_wp2
    go_ret2
    exact ⟨HB2.out, by rw [HE.out, HV0.out]; rfl⟩
  · have HE := hid (show cntA L rows accs n = 0 by rw [HE.out, if_neg hv])
    have hv' : (v != 0) = true := by simpa using hv
    clear hv HO
    go_wp2
    go_ret2
    exact ⟨HB1.out, by rw [HE.out, HV0.out]; rfl⟩
end Go.Proofs.Ytkboeldafppicaa
