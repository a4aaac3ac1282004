/- Count of package menu. -/
import Derived.Test.YtkboeldafppicaaMWords
set_option linter.unusedVariables false
set_option linter.unusedSimpArgs false
namespace Go.Proofs.Ytkboeldafppicaa
open Go.RowKit

theorem egW : (∀ args (w : World), (callFunc 136 args).run Try.prog w = .ok (.enter 136 args) w) := fun _ _ => by kernel_rfl
theorem i64_small {x : Int} (h0 : 0 ≤ x) (h1 : x ≤ 3656158440062976) : I64 x := by unfold I64; omega
set_option maxRecDepth 100000 in
set_option maxHeartbeats 4000000 in
theorem mWords_any (L n nc ac : Nat) (Na Aa : Option Addr) (rows : List (List Int)) (accs : List Bool) (w : World) (h : MachAt w Na rows Aa accs) (hg : GoodM L rows accs) (hn : n ≤ 20) (hn5 : rows.length ≤ 5000) :
    Calls Try.prog 106 #[machV L Na rows.length nc Aa rows.length ac, .int .i64 (n : Int)] w fun e w' => Below w.heap.size w w' ∧ ∃ gT G, e = .returned (.slice (some ⟨gT, 0, none⟩) (n + 1) (n + 1)) ∧ TabW w' w.heap.size gT (n + 1) rows.length (wT L rows accs) G (n + 1) := by
  have hA : Below w.heap.size w (w.alloc (machO L Na rows.length nc Aa rows.length ac)) := (Below.refl _ _).alloc (Nat.le_refl _) _
  have HA := hid hA
  have HB := hid (byLength_any L n nc ac Na Aa rows accs 1 0 (wT L rows accs) 136 #[] #[.pointer (some ⟨w.heap.size, 0, none⟩)] (w.alloc (machO L Na rows.length nc Aa rows.length ac)) (h.below hA) hg hn hn5 (fun s _ => rfl) (fun k s hk hs => by obtain ⟨h0, h1⟩ := wT_small hg k s (by omega) hs; exact i64_small h0 h1) egW
    (fun w' k s K hb hk hs hK => by
      have c1 : (w.alloc (machO L Na rows.length nc Aa rows.length ac)).cell? ⟨w.heap.size, 1, none⟩ = some (.slice Na rows.length nc) := by go_simp
      exact wordsC_any L s k nc ac rows.length w.heap.size Na Aa K rows accs w' ((h.below hA).below hb) hg hs (by omega) hn5 hK ((hb.cell (cell_lt c1)).trans c1)))
  clear h hg hA
  unfold machV at *
  go_enter Try.func106, Try.ntmps106
  go_wp2_with fail
  refine HB.out.mono ?_
  rintro e w1 ⟨hb1, gT, G, rfl, hT⟩
  have HT := hid (hT.weak (b := w.heap.size) (by simp))
  have HB1 := hid (HA.out.trans (hb1.mono HA.out.size))
  clear hT hb1 HB HA
  go_wp2
  go_ret
  exact ⟨HB1.out, gT, G, rfl, HT.out⟩
theorem lenE_ok {L : Int} {rows : List (List Int)} {accs : List Bool} {n : Int} (h : lenE L rows accs n = 0) : vE L rows accs = 0 ∧ (∃ m : Nat, n = m ∧ m ≤ 20) ∧ ∃ l : Nat, L = l := by
  unfold lenE at h
  split at h
  · rename_i h1; exact absurd h h1
  · rename_i h1
    have hv : vE L rows accs = 0 := Classical.byContradiction h1
    split at h
    · cases h
    · refine ⟨hv, ⟨n.toNat, by omega, by omega⟩, ?_⟩
      have : 1 ≤ L := by
        unfold vE at hv
        split at hv
        · cases hv
        · rename_i h4; omega
      exact ⟨L.toNat, by omega⟩
/-- What Count answers. -/
def cntA (L : Int) (rows : List (List Int)) (accs : List Bool) (n : Int) : Int := if lenE L rows accs n = 0 then wT L.toNat rows accs n.toNat 0 else 0
set_option maxRecDepth 100000 in
set_option maxHeartbeats 4000000 in
theorem mCount_any (L : Int) (nc ac : Nat) (Na Aa : Option Addr) (rows : List (List Int)) (accs : List Bool) (n : Int) (w : World) (h : MachAt w Na rows Aa accs) :
    Calls Try.prog 48 #[machV L Na rows.length nc Aa accs.length ac, .int .i64 n] w fun e w' => Below w.heap.size w w' ∧ e = .returned (.tuple #[.int .i64 (cntA L rows accs n), .int .i64 (lenE L rows accs n)]) := by
  have hn := h.nlen
  have hal := h.alen
  have hA : Below w.heap.size w (w.alloc (amachO L Na rows.length nc Aa accs.length ac)) := (Below.refl _ _).alloc (Nat.le_refl _) _
  have HA := hid hA
  have HH := hid h
  have HE := hid (show cntA L rows accs n = if lenE L rows accs n = 0 then wT L.toNat rows accs n.toNat 0 else 0 from rfl)
  have HO := hid (lenE_ok (L := L) (rows := rows) (accs := accs) (n := n))
  have HC := hid (mCheckLength_any L nc ac Na Aa rows accs n _ (h.below hA))
  clear h
  have c0 : (w.alloc (amachO L Na rows.length nc Aa accs.length ac)).cell? ⟨w.heap.size, 0, none⟩ = some (.int .i64 L) := by go_simp
  have c1 : (w.alloc (amachO L Na rows.length nc Aa accs.length ac)).cell? ⟨w.heap.size, 1, none⟩ = some (.slice Na rows.length nc) := by go_simp
  have c2 : (w.alloc (amachO L Na rows.length nc Aa accs.length ac)).cell? ⟨w.heap.size, 2, none⟩ = some (.slice Aa accs.length ac) := by go_simp
  unfold machV at *
  go_enter Try.func48, Try.ntmps48
  go_wp2_with fail
  refine HC.out.mono ?_
  rintro e w1 ⟨hb1, rfl⟩
  have d0 := (hb1.cell (cell_lt c0)).trans c0
  have d1 := (hb1.cell (cell_lt c1)).trans c1
  have d2 := (hb1.cell (cell_lt c2)).trans c2
  have HB1 := hid (HA.out.trans (hb1.mono HA.out.size))
  clear hb1 c0 c1 c2 hA HC HA
  generalize hv0 : lenE L rows accs n = v at *
  have HV0 := hid hv0
  clear hv0
  by_cases hv : v = 0
  · subst hv
    obtain ⟨hV, ⟨m, rfl, hm⟩, l, rfl⟩ := HO.out rfl
    obtain ⟨hg, h64⟩ := vE_ok hV
    have hpos := hg.pos
    have hacc := hg.acc
    have HE := hid (show cntA l rows accs m = wT l rows accs m 0 by rw [HE.out, if_pos rfl, Int.toNat_natCast, Int.toNat_natCast])
    have HT := hid (mWords_any l m nc ac Na Aa rows accs w1 (HH.out.below HB1.out) hg hm (by omega))
    rw [hacc] at d2
    unfold machV at HT
    clear hV hg hacc HO
    go_wp2_with fail
    refine HT.out.mono ?_
    rintro e w2 ⟨hb2, gT, G, rfl, hT⟩
    have HB2 := hid (HB1.out.trans (hb2.mono HB1.out.size))
    have e1 := hT.cell m (by omega)
    have e2 := hT.get m 0 (by omega) hpos
    have hmi : (m : Int) < (m : Int) + 1 := by omega
    clear hT hb2 HT
    go_wp2
    go_ret2
    exact ⟨HB2.out, by rw [HE.out, HV0.out]; rfl⟩
  · have HE := hid (show cntA L rows accs n = 0 by rw [HE.out, if_neg hv])
    have hv' : (v != 0) = true := by simpa using hv
    clear hv HO
    go_wp2
    go_ret2
    exact ⟨HB1.out, by rw [HE.out, HV0.out]; rfl⟩
end Go.Proofs.Ytkboeldafppicaa
