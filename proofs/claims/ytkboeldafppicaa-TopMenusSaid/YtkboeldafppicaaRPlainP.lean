/- Plain of the document. -/
import Derived.Test.YtkboeldafppicaaRPlain
import Derived.Test.YtkboeldafppicaaMRef
/- What the document tells of a machine: its plain form, or that it is too large. -/
set_option linter.unusedVariables false
set_option linter.unusedSimpArgs false
namespace Go.Proofs.Ytkboeldafppicaa
open Go.RowKit Go.Maps

set_option maxRecDepth 100000 in
set_option maxHeartbeats 1000000 in
theorem rtold_any (L nc ac : Nat) (Na Aa : Option Addr) (rows : List (List Int)) (accs : List Bool) (w : World) (h : MachAt w Na rows Aa accs) (hg : GoodM L rows accs) (hn5 : rows.length ≤ 5000) :
    Calls Try.prog 74 #[machV L Na rows.length nc Aa rows.length ac] w fun e w' => Below w.heap.size w w' ∧ PlainAns w' w.heap.size L (mLang L rows accs 0) e := by
  have hB1 : Below w.heap.size w ((w.alloc (.cells #[.int .i64 (L : Int), .slice Na rows.length nc, .slice Aa rows.length ac] 25)).alloc (.cells #[.int .i64 0, .slice none 0 0, .slice none 0 0] 25)) := ((Below.refl _ _).alloc (Nat.le_refl _) _).alloc (by simp) _
  have HM1 := hid (h.below hB1)
  have HK := hid (rplain_any L nc ac Na Aa rows accs _ HM1.out hg hn5)
  have HB1 := hid hB1
  clear h hg hB1
  unfold machV at HK ⊢
  go_enter Try.func74, Try.ntmps74
  go_wp2_with fail
  refine HK.out.mono ?_
  rintro e w1 ⟨hb1, i, Na5, nc5, Aa5, ac5, hF, hi, rfl, hM⟩
  have z0 : w1.cell? ⟨w.heap.size + 1, 0, none⟩ = some (.int .i64 0) := by rw [hb1.cell (by simp)]; go_simp
  have z1 : w1.cell? ⟨w.heap.size + 1, 1, none⟩ = some (.slice none 0 0) := by rw [hb1.cell (by simp)]; go_simp
  have z2 : w1.cell? ⟨w.heap.size + 1, 2, none⟩ = some (.slice none 0 0) := by rw [hb1.cell (by simp)]; go_simp
  have y0 : w1.frozen? ⟨w.heap.size + 1, 0, none⟩ = false := by rw [hb1.frozen (by simp)]; go_simp
  have y1 : w1.frozen? ⟨w.heap.size + 1, 1, none⟩ = false := by rw [hb1.frozen (by simp)]; go_simp
  have y2 : w1.frozen? ⟨w.heap.size + 1, 2, none⟩ = false := by rw [hb1.frozen (by simp)]; go_simp
  have hsz : w.heap.size + 1 < w1.heap.size := cell_lt z0
  have hB2 := HB1.out.trans (hb1.mono HB1.out.size)
  have HB2 := hid hB2
  have HM := hid hM
  have HF := hid hF
  clear hb1 hF hM HK hB2
  by_cases h64 : 64 < i
  · have h64' : (64 : Int) < (i : Int) := by omega
    go_wp2
    have t0 : ((((w1.setCell ⟨w.heap.size + 1, 0, none⟩ (.int .i64 0)).setCell ⟨w.heap.size + 1, 1, none⟩ (.slice none 0 0)).setCell ⟨w.heap.size + 1, 2, none⟩ (.slice none 0 0)).alloc (.cells #[.int .i64 (L : Int), .slice Na5 i nc5, .slice Aa5 i ac5] 25)).cell? ⟨w.heap.size + 1, 0, none⟩ = some (.int .i64 0) := by go_simp
    have t1 : ((((w1.setCell ⟨w.heap.size + 1, 0, none⟩ (.int .i64 0)).setCell ⟨w.heap.size + 1, 1, none⟩ (.slice none 0 0)).setCell ⟨w.heap.size + 1, 2, none⟩ (.slice none 0 0)).alloc (.cells #[.int .i64 (L : Int), .slice Na5 i nc5, .slice Aa5 i ac5] 25)).cell? ⟨w.heap.size + 1, 1, none⟩ = some (.slice none 0 0) := by go_simp
    have t2 : ((((w1.setCell ⟨w.heap.size + 1, 0, none⟩ (.int .i64 0)).setCell ⟨w.heap.size + 1, 1, none⟩ (.slice none 0 0)).setCell ⟨w.heap.size + 1, 2, none⟩ (.slice none 0 0)).alloc (.cells #[.int .i64 (L : Int), .slice Na5 i nc5, .slice Aa5 i ac5] 25)).cell? ⟨w.heap.size + 1, 2, none⟩ = some (.slice none 0 0) := by go_simp
    have hbz := (((HB2.out.setCell (p := ⟨w.heap.size + 1, 0, none⟩) (by simp) (.int .i64 0)).setCell (p := ⟨w.heap.size + 1, 1, none⟩) (by simp) (.slice none 0 0)).setCell (p := ⟨w.heap.size + 1, 2, none⟩) (by simp) (.slice none 0 0))
    have HBz := hid (hbz.alloc hbz.size (.cells #[.int .i64 (L : Int), .slice Na5 i nc5, .slice Aa5 i ac5] 25))
    clear hbz
    generalize ((((w1.setCell ⟨w.heap.size + 1, 0, none⟩ (.int .i64 0)).setCell ⟨w.heap.size + 1, 1, none⟩ (.slice none 0 0)).setCell ⟨w.heap.size + 1, 2, none⟩ (.slice none 0 0)).alloc (.cells #[.int .i64 (L : Int), .slice Na5 i nc5, .slice Aa5 i ac5] 25)) = wz at *
    refine bodyPost_ret (v := .tuple #[machV 0 none 0 0 none 0 0, .int .i64 4]) (by simp [machV, results, Try.results74, go_sem, t0, t1, t2]) rfl ⟨HBz.out, i, HF.out, .inl ⟨h64, rfl⟩⟩
  · have h64' : ¬ (64 : Int) < (i : Int) := by omega
    go_wp2
    have t0 : ((((w1.setCell ⟨w.heap.size + 1, 0, none⟩ (.int .i64 (L : Int))).setCell ⟨w.heap.size + 1, 1, none⟩ (.slice Na5 i nc5)).setCell ⟨w.heap.size + 1, 2, none⟩ (.slice Aa5 i ac5)).alloc (.cells #[.int .i64 (L : Int), .slice Na5 i nc5, .slice Aa5 i ac5] 25)).cell? ⟨w.heap.size + 1, 0, none⟩ = some (.int .i64 (L : Int)) := by go_simp
    have t1 : ((((w1.setCell ⟨w.heap.size + 1, 0, none⟩ (.int .i64 (L : Int))).setCell ⟨w.heap.size + 1, 1, none⟩ (.slice Na5 i nc5)).setCell ⟨w.heap.size + 1, 2, none⟩ (.slice Aa5 i ac5)).alloc (.cells #[.int .i64 (L : Int), .slice Na5 i nc5, .slice Aa5 i ac5] 25)).cell? ⟨w.heap.size + 1, 1, none⟩ = some (.slice Na5 i nc5) := by go_simp
    have t2 : ((((w1.setCell ⟨w.heap.size + 1, 0, none⟩ (.int .i64 (L : Int))).setCell ⟨w.heap.size + 1, 1, none⟩ (.slice Na5 i nc5)).setCell ⟨w.heap.size + 1, 2, none⟩ (.slice Aa5 i ac5)).alloc (.cells #[.int .i64 (L : Int), .slice Na5 i nc5, .slice Aa5 i ac5] 25)).cell? ⟨w.heap.size + 1, 2, none⟩ = some (.slice Aa5 i ac5) := by go_simp
    have hbz := (((HB2.out.setCell (p := ⟨w.heap.size + 1, 0, none⟩) (by simp) (.int .i64 (L : Int))).setCell (p := ⟨w.heap.size + 1, 1, none⟩) (by simp) (.slice Na5 i nc5)).setCell (p := ⟨w.heap.size + 1, 2, none⟩) (by simp) (.slice Aa5 i ac5))
    have HBz := hid (hbz.alloc hbz.size (.cells #[.int .i64 (L : Int), .slice Na5 i nc5, .slice Aa5 i ac5] 25))
    clear hbz
    have HMz := hid (((((HM.out.setCell ⟨w.heap.size + 1, 0, none⟩ (.int .i64 (L : Int)) (by simp)).setCell ⟨w.heap.size + 1, 1, none⟩ (.slice Na5 i nc5) (by simp)).setCell ⟨w.heap.size + 1, 2, none⟩ (.slice Aa5 i ac5) (by simp)).below ((Below.refl _ _).alloc (Nat.le_refl _) (.cells #[.int .i64 (L : Int), .slice Na5 i nc5, .slice Aa5 i ac5] 25))).weak (B' := w.heap.size) (by simp; omega))
    generalize ((((w1.setCell ⟨w.heap.size + 1, 0, none⟩ (.int .i64 (L : Int))).setCell ⟨w.heap.size + 1, 1, none⟩ (.slice Na5 i nc5)).setCell ⟨w.heap.size + 1, 2, none⟩ (.slice Aa5 i ac5)).alloc (.cells #[.int .i64 (L : Int), .slice Na5 i nc5, .slice Aa5 i ac5] 25)) = wz at *
    refine bodyPost_ret (v := .tuple #[machV L Na5 i nc5 Aa5 i ac5, .int .i64 0]) (by simp [machV, results, Try.results74, go_sem, t0, t1, t2]) rfl ⟨HBz.out, i, HF.out, .inr ⟨by omega, Na5, nc5, Aa5, ac5, rfl, HMz.out⟩⟩
end Go.Proofs.Ytkboeldafppicaa
set_option linter.unusedVariables false
set_option linter.unusedSimpArgs false
namespace Go.Proofs.Ytkboeldafppicaa
open Go.RowKit Go.Maps

/-- What Plain answers. -/
def PlA (w' : World) (B : Nat) (L : Int) (rows : List (List Int)) (accs : List Bool) (e : Ending) : Prop :=
  (vE L rows accs ≠ 0 ∧ e = .returned (.tuple #[machV 0 none 0 0 none 0 0, .int .i64 (vE L rows accs)])) ∨ (vE L rows accs = 0 ∧ PlainAns w' B L.toNat (mLang L.toNat rows accs 0) e)
theorem vE_nat {L : Int} {rows : List (List Int)} {accs : List Bool} (h : vE L rows accs = 0) : ∃ n : Nat, L = n := by
  unfold vE at h
  split at h
  · cases h
  · rename_i h1
    exact ⟨L.toNat, by omega⟩

set_option maxRecDepth 100000 in
set_option maxHeartbeats 1000000 in
theorem rPlain_any (L : Int) (nc ac : Nat) (Na Aa : Option Addr) (rows : List (List Int)) (accs : List Bool) (w : World) (h : MachAt w Na rows Aa accs) :
    Calls Try.prog 27 #[machV L Na rows.length nc Aa accs.length ac] w fun e w' => Below w.heap.size w w' ∧ PlA w' w.heap.size L rows accs e := by
  have hB1 : Below w.heap.size w ((w.alloc (.cells #[.int .i64 L, .slice Na rows.length nc, .slice Aa accs.length ac] 25)).alloc (.cells #[.int .i64 0, .slice none 0 0, .slice none 0 0] 25)) := ((Below.refl _ _).alloc (Nat.le_refl _) _).alloc (by simp) _
  have HM1 := hid (h.below hB1)
  have HV := hid (rValidate_any L nc ac Na Aa rows accs _ HM1.out)
  have HB1 := hid hB1
  clear h hB1
  unfold machV at HV ⊢
  go_enter Try.func27, Try.ntmps27
  go_wp2_with fail
  refine HV.out.mono ?_
  rintro e w1 ⟨hb1, rfl⟩
  have z0 : w1.cell? ⟨w.heap.size + 1, 0, none⟩ = some (.int .i64 0) := by rw [hb1.cell (by simp)]; go_simp
  have z1 : w1.cell? ⟨w.heap.size + 1, 1, none⟩ = some (.slice none 0 0) := by rw [hb1.cell (by simp)]; go_simp
  have z2 : w1.cell? ⟨w.heap.size + 1, 2, none⟩ = some (.slice none 0 0) := by rw [hb1.cell (by simp)]; go_simp
  have y0 : w1.frozen? ⟨w.heap.size + 1, 0, none⟩ = false := by rw [hb1.frozen (by simp)]; go_simp
  have y1 : w1.frozen? ⟨w.heap.size + 1, 1, none⟩ = false := by rw [hb1.frozen (by simp)]; go_simp
  have y2 : w1.frozen? ⟨w.heap.size + 1, 2, none⟩ = false := by rw [hb1.frozen (by simp)]; go_simp
  have m0 : w1.cell? ⟨w.heap.size, 0, none⟩ = some (.int .i64 L) := by rw [hb1.cell (by simp; omega)]; go_simp
  have m1 : w1.cell? ⟨w.heap.size, 1, none⟩ = some (.slice Na rows.length nc) := by rw [hb1.cell (by simp; omega)]; go_simp
  have m2 : w1.cell? ⟨w.heap.size, 2, none⟩ = some (.slice Aa accs.length ac) := by rw [hb1.cell (by simp; omega)]; go_simp
  have hsz : w.heap.size + 1 < w1.heap.size := cell_lt z0
  have HB2 := hid (HB1.out.trans (hb1.mono HB1.out.size))
  have HM2 := hid (HM1.out.below hb1)
  clear hb1 HM1 HV HB1
  by_cases hv : vE L rows accs = 0
  · obtain ⟨n, rfl⟩ := vE_nat hv
    obtain ⟨hg, hn64⟩ := vE_ok hv
    have HG := hid hg
    have HV := hid hv
    have hal := hg.acc
    rw [hal] at m2
    rw [hal, hv]
    clear hg hv
    go_wp2_with fail
    refine (rtold_any n nc ac Na Aa rows accs w1 HM2.out HG.out (by omega)).mono ?_
    rintro e w5 ⟨hb5, i, hF, hans⟩
    have hsz5 : w.heap.size + 1 < w5.heap.size := by have := hb5.size; omega
    have z0 := (hb5.cell (cell_lt z0)).trans z0
    have z1 := (hb5.cell (cell_lt z1)).trans z1
    have z2 := (hb5.cell (cell_lt z2)).trans z2
    have HB5 := hid (HB2.out.trans (hb5.mono HB2.out.size))
    have HF := hid hF
    have yy : ∀ o, w5.frozen? ⟨w.heap.size + 1, o, none⟩ = w1.frozen? ⟨w.heap.size + 1, o, none⟩ := fun o => hb5.frozen hsz
    have y0 := (yy 0).trans y0
    have y1 := (yy 1).trans y1
    have y2 := (yy 2).trans y2
    clear hb5 hF HM2 yy m0 m1 m2
    rcases hans with ⟨h64, rfl⟩ | ⟨h64, Na5, nc5, Aa5, ac5, rfl, hM⟩
    · unfold machV
      go_wp2
      have t0 : (((w5.setCell ⟨w.heap.size + 1, 0, none⟩ (.int .i64 0)).setCell ⟨w.heap.size + 1, 1, none⟩ (.slice none 0 0)).setCell ⟨w.heap.size + 1, 2, none⟩ (.slice none 0 0)).cell? ⟨w.heap.size + 1, 0, none⟩ = some (.int .i64 0) := by go_simp
      have t1 : (((w5.setCell ⟨w.heap.size + 1, 0, none⟩ (.int .i64 0)).setCell ⟨w.heap.size + 1, 1, none⟩ (.slice none 0 0)).setCell ⟨w.heap.size + 1, 2, none⟩ (.slice none 0 0)).cell? ⟨w.heap.size + 1, 1, none⟩ = some (.slice none 0 0) := by go_simp
      have t2 : (((w5.setCell ⟨w.heap.size + 1, 0, none⟩ (.int .i64 0)).setCell ⟨w.heap.size + 1, 1, none⟩ (.slice none 0 0)).setCell ⟨w.heap.size + 1, 2, none⟩ (.slice none 0 0)).cell? ⟨w.heap.size + 1, 2, none⟩ = some (.slice none 0 0) := by go_simp
      have HBz := hid (((HB5.out.setCell (p := ⟨w.heap.size + 1, 0, none⟩) (by simp) (.int .i64 0)).setCell (p := ⟨w.heap.size + 1, 1, none⟩) (by simp) (.slice none 0 0)).setCell (p := ⟨w.heap.size + 1, 2, none⟩) (by simp) (.slice none 0 0))
      generalize (((w5.setCell ⟨w.heap.size + 1, 0, none⟩ (.int .i64 0)).setCell ⟨w.heap.size + 1, 1, none⟩ (.slice none 0 0)).setCell ⟨w.heap.size + 1, 2, none⟩ (.slice none 0 0)) = wz at *
      refine bodyPost_ret (v := .tuple #[machV 0 none 0 0 none 0 0, .int .i64 4]) (by simp [machV, results, Try.results27, go_sem, t0, t1, t2]) rfl ⟨HBz.out, .inr ⟨HV.out, by rw [Int.toNat_natCast]; exact ⟨i, HF.out, .inl ⟨h64, rfl⟩⟩⟩⟩
    · unfold machV
      have HM := hid hM
      clear hM
      go_wp2
      have t0 : (((w5.setCell ⟨w.heap.size + 1, 0, none⟩ (.int .i64 (n : Int))).setCell ⟨w.heap.size + 1, 1, none⟩ (.slice Na5 i nc5)).setCell ⟨w.heap.size + 1, 2, none⟩ (.slice Aa5 i ac5)).cell? ⟨w.heap.size + 1, 0, none⟩ = some (.int .i64 (n : Int)) := by go_simp
      have t1 : (((w5.setCell ⟨w.heap.size + 1, 0, none⟩ (.int .i64 (n : Int))).setCell ⟨w.heap.size + 1, 1, none⟩ (.slice Na5 i nc5)).setCell ⟨w.heap.size + 1, 2, none⟩ (.slice Aa5 i ac5)).cell? ⟨w.heap.size + 1, 1, none⟩ = some (.slice Na5 i nc5) := by go_simp
      have t2 : (((w5.setCell ⟨w.heap.size + 1, 0, none⟩ (.int .i64 (n : Int))).setCell ⟨w.heap.size + 1, 1, none⟩ (.slice Na5 i nc5)).setCell ⟨w.heap.size + 1, 2, none⟩ (.slice Aa5 i ac5)).cell? ⟨w.heap.size + 1, 2, none⟩ = some (.slice Aa5 i ac5) := by go_simp
      have HBz := hid (((HB5.out.setCell (p := ⟨w.heap.size + 1, 0, none⟩) (by simp) (.int .i64 (n : Int))).setCell (p := ⟨w.heap.size + 1, 1, none⟩) (by simp) (.slice Na5 i nc5)).setCell (p := ⟨w.heap.size + 1, 2, none⟩) (by simp) (.slice Aa5 i ac5))
      have HMz := hid ((((HM.out.setCell ⟨w.heap.size + 1, 0, none⟩ (.int .i64 (n : Int)) (by simp; omega)).setCell ⟨w.heap.size + 1, 1, none⟩ (.slice Na5 i nc5) (by simp; omega)).setCell ⟨w.heap.size + 1, 2, none⟩ (.slice Aa5 i ac5) (by simp; omega)).weak (B' := w.heap.size) (by omega))
      generalize (((w5.setCell ⟨w.heap.size + 1, 0, none⟩ (.int .i64 (n : Int))).setCell ⟨w.heap.size + 1, 1, none⟩ (.slice Na5 i nc5)).setCell ⟨w.heap.size + 1, 2, none⟩ (.slice Aa5 i ac5)) = wz at *
      refine bodyPost_ret (v := .tuple #[machV n Na5 i nc5 Aa5 i ac5, .int .i64 0]) (by simp [machV, results, Try.results27, go_sem, t0, t1, t2]) rfl ⟨HBz.out, .inr ⟨HV.out, by rw [Int.toNat_natCast]; exact ⟨i, HF.out, .inr ⟨h64, Na5, nc5, Aa5, ac5, rfl, HMz.out⟩⟩⟩⟩
  · have hv1 : (vE L rows accs != 0) = true := by simpa using hv
    have HV := hid hv
    clear hv
    generalize hvv : vE L rows accs = v at *
    have HVV := hid hvv
    clear hvv m0 m1 m2
    go_wp2
    have t0 : (((w1.setCell ⟨w.heap.size + 1, 0, none⟩ (.int .i64 0)).setCell ⟨w.heap.size + 1, 1, none⟩ (.slice none 0 0)).setCell ⟨w.heap.size + 1, 2, none⟩ (.slice none 0 0)).cell? ⟨w.heap.size + 1, 0, none⟩ = some (.int .i64 0) := by go_simp
    have t1 : (((w1.setCell ⟨w.heap.size + 1, 0, none⟩ (.int .i64 0)).setCell ⟨w.heap.size + 1, 1, none⟩ (.slice none 0 0)).setCell ⟨w.heap.size + 1, 2, none⟩ (.slice none 0 0)).cell? ⟨w.heap.size + 1, 1, none⟩ = some (.slice none 0 0) := by go_simp
    have t2 : (((w1.setCell ⟨w.heap.size + 1, 0, none⟩ (.int .i64 0)).setCell ⟨w.heap.size + 1, 1, none⟩ (.slice none 0 0)).setCell ⟨w.heap.size + 1, 2, none⟩ (.slice none 0 0)).cell? ⟨w.heap.size + 1, 2, none⟩ = some (.slice none 0 0) := by go_simp
    have HBz := hid (((HB2.out.setCell (p := ⟨w.heap.size + 1, 0, none⟩) (by simp) (.int .i64 0)).setCell (p := ⟨w.heap.size + 1, 1, none⟩) (by simp) (.slice none 0 0)).setCell (p := ⟨w.heap.size + 1, 2, none⟩) (by simp) (.slice none 0 0))
    generalize (((w1.setCell ⟨w.heap.size + 1, 0, none⟩ (.int .i64 0)).setCell ⟨w.heap.size + 1, 1, none⟩ (.slice none 0 0)).setCell ⟨w.heap.size + 1, 2, none⟩ (.slice none 0 0)) = wz at *
    refine bodyPost_ret (v := .tuple #[machV 0 none 0 0 none 0 0, .int .i64 v]) (by simp [machV, results, Try.results27, go_sem, t0, t1, t2]) rfl ⟨HBz.out, .inl ⟨by rw [HVV.out]; exact HV.out, by rw [HVV.out]⟩⟩
end Go.Proofs.Ytkboeldafppicaa
