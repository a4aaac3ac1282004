/- Both and Either of the document. -/
import Derived.Test.YtkboeldafppicaaRProd
import Derived.Test.YtkboeldafppicaaMNot
set_option linter.unusedVariables false
set_option linter.unusedSimpArgs false
namespace Go.Proofs.Ytkboeldafppicaa
open Go.RowKit Go.Maps

theorem bothA_op : tabA false false false true = bothA := by
  funext aa ab s
  unfold tabA tbv bothA
  cases mA aa s.1.toNat <;> cases mA ab s.2.toNat <;> rfl
theorem eithA_op : tabA false true true true = eithA := by
  funext aa ab s
  unfold tabA tbv eithA
  cases mA aa s.1.toNat <;> cases mA ab s.2.toNat <;> rfl
set_option maxRecDepth 100000 in
set_option maxHeartbeats 4000000 in
theorem rBothM_any (L : Int) (nc ac : Nat) (Na Aa : Option Addr) (rows : List (List Int)) (accs : List Bool) (L' : Int) (nc' ac' : Nat) (Na' Aa' : Option Addr) (rows' : List (List Int)) (accs' : List Bool) (w : World) (h : MachAt w Na rows Aa accs) (h' : MachAt w Na' rows' Aa' accs') :
    Calls Try.prog 35 #[machV L Na rows.length nc Aa accs.length ac, machV L' Na' rows'.length nc' Aa' accs'.length ac'] w fun e w' => Below w.heap.size w w' ∧ TwoA w' w.heap.size L rows accs L' rows' accs' bothA e := by
  have hB1 : Below w.heap.size w (((w.alloc (.cells #[.int .i64 L, .slice Na rows.length nc, .slice Aa accs.length ac] 25)).alloc (.cells #[.int .i64 L', .slice Na' rows'.length nc', .slice Aa' accs'.length ac'] 25)).alloc (.cells #[.int .i64 0, .slice none 0 0, .slice none 0 0] 25)) := (((Below.refl _ _).alloc (Nat.le_refl _) _).alloc (by simp) _).alloc (by simp; omega) _
  have HV := hid (rProduct_any false false false true L nc ac Na Aa rows accs L' nc' ac' Na' Aa' rows' accs' _ (h.below hB1) (h'.below hB1))
  have HB1 := hid hB1
  clear h h' hB1
  unfold machV at HV ⊢
  go_enter Try.func35, Try.ntmps35
  go_wp2_with fail
  refine HV.out.mono ?_
  rintro e w1 ⟨hb1, hans⟩
  rw [bothA_op] at hans
  have z0 : w1.cell? ⟨w.heap.size + 1 + 1, 0, none⟩ = some (.int .i64 0) := by rw [hb1.cell (by simp)]; go_simp
  have z1 : w1.cell? ⟨w.heap.size + 1 + 1, 1, none⟩ = some (.slice none 0 0) := by rw [hb1.cell (by simp)]; go_simp
  have z2 : w1.cell? ⟨w.heap.size + 1 + 1, 2, none⟩ = some (.slice none 0 0) := by rw [hb1.cell (by simp)]; go_simp
  have y0 : w1.frozen? ⟨w.heap.size + 1 + 1, 0, none⟩ = false := by rw [hb1.frozen (by simp)]; go_simp
  have y1 : w1.frozen? ⟨w.heap.size + 1 + 1, 1, none⟩ = false := by rw [hb1.frozen (by simp)]; go_simp
  have y2 : w1.frozen? ⟨w.heap.size + 1 + 1, 2, none⟩ = false := by rw [hb1.frozen (by simp)]; go_simp
  have hsz : w.heap.size + 1 + 1 < w1.heap.size := cell_lt z0
  have HB2 := hid (HB1.out.trans (hb1.mono HB1.out.size))
  have hlt0 : w.heap.size ≤ (((w.alloc (.cells #[.int .i64 L, .slice Na rows.length nc, .slice Aa accs.length ac] 25)).alloc (.cells #[.int .i64 L', .slice Na' rows'.length nc', .slice Aa' accs'.length ac'] 25)).alloc (.cells #[.int .i64 0, .slice none 0 0, .slice none 0 0] 25)).heap.size := HB1.out.size
  clear hb1 HV HB1
  rcases hans with ⟨hv, rfl⟩ | ⟨hv, i, hF, ⟨h64, rfl⟩ | ⟨h64, Na5, nc5, Aa5, ac5, rfl, hM⟩⟩
  · generalize hvv : twoE L rows accs L' rows' accs' = v at *
    have HVV := hid hvv
    clear hvv hlt0
    have HV := hid hv
    unfold machV
    go_wp2
    have t0 : (((w1.setCell ⟨w.heap.size + 1 + 1, 0, none⟩ (.int .i64 0)).setCell ⟨w.heap.size + 1 + 1, 1, none⟩ (.slice none 0 0)).setCell ⟨w.heap.size + 1 + 1, 2, none⟩ (.slice none 0 0)).cell? ⟨w.heap.size + 1 + 1, 0, none⟩ = some (.int .i64 0) := by go_simp
    have t1 : (((w1.setCell ⟨w.heap.size + 1 + 1, 0, none⟩ (.int .i64 0)).setCell ⟨w.heap.size + 1 + 1, 1, none⟩ (.slice none 0 0)).setCell ⟨w.heap.size + 1 + 1, 2, none⟩ (.slice none 0 0)).cell? ⟨w.heap.size + 1 + 1, 1, none⟩ = some (.slice none 0 0) := by go_simp
    have t2 : (((w1.setCell ⟨w.heap.size + 1 + 1, 0, none⟩ (.int .i64 0)).setCell ⟨w.heap.size + 1 + 1, 1, none⟩ (.slice none 0 0)).setCell ⟨w.heap.size + 1 + 1, 2, none⟩ (.slice none 0 0)).cell? ⟨w.heap.size + 1 + 1, 2, none⟩ = some (.slice none 0 0) := by go_simp
    have HBz := hid (((HB2.out.setCell (p := ⟨w.heap.size + 1 + 1, 0, none⟩) (by first | (simp; done) | (simp; omega)) (.int .i64 0)).setCell (p := ⟨w.heap.size + 1 + 1, 1, none⟩) (by first | (simp; done) | (simp; omega)) (.slice none 0 0)).setCell (p := ⟨w.heap.size + 1 + 1, 2, none⟩) (by first | (simp; done) | (simp; omega)) (.slice none 0 0))
    generalize (((w1.setCell ⟨w.heap.size + 1 + 1, 0, none⟩ (.int .i64 0)).setCell ⟨w.heap.size + 1 + 1, 1, none⟩ (.slice none 0 0)).setCell ⟨w.heap.size + 1 + 1, 2, none⟩ (.slice none 0 0)) = wz at *
    refine bodyPost_ret (v := .tuple #[machV 0 none 0 0 none 0 0, .int .i64 v]) (by simp [machV, results, Try.results35, go_sem, t0, t1, t2]) rfl ⟨HBz.out, .inl ⟨by rw [HVV.out]; exact HV.out, by rw [HVV.out]⟩⟩
  · obtain ⟨n, rfl, rfl, _⟩ := twoE_ok hv
    have HVz := hid hv
    have HF := hid hF
    clear hv hF hlt0
    unfold machV
    go_wp2
    have t0 : (((w1.setCell ⟨w.heap.size + 1 + 1, 0, none⟩ (.int .i64 0)).setCell ⟨w.heap.size + 1 + 1, 1, none⟩ (.slice none 0 0)).setCell ⟨w.heap.size + 1 + 1, 2, none⟩ (.slice none 0 0)).cell? ⟨w.heap.size + 1 + 1, 0, none⟩ = some (.int .i64 0) := by go_simp
    have t1 : (((w1.setCell ⟨w.heap.size + 1 + 1, 0, none⟩ (.int .i64 0)).setCell ⟨w.heap.size + 1 + 1, 1, none⟩ (.slice none 0 0)).setCell ⟨w.heap.size + 1 + 1, 2, none⟩ (.slice none 0 0)).cell? ⟨w.heap.size + 1 + 1, 1, none⟩ = some (.slice none 0 0) := by go_simp
    have t2 : (((w1.setCell ⟨w.heap.size + 1 + 1, 0, none⟩ (.int .i64 0)).setCell ⟨w.heap.size + 1 + 1, 1, none⟩ (.slice none 0 0)).setCell ⟨w.heap.size + 1 + 1, 2, none⟩ (.slice none 0 0)).cell? ⟨w.heap.size + 1 + 1, 2, none⟩ = some (.slice none 0 0) := by go_simp
    have HBz := hid (((HB2.out.setCell (p := ⟨w.heap.size + 1 + 1, 0, none⟩) (by first | (simp; done) | (simp; omega)) (.int .i64 0)).setCell (p := ⟨w.heap.size + 1 + 1, 1, none⟩) (by first | (simp; done) | (simp; omega)) (.slice none 0 0)).setCell (p := ⟨w.heap.size + 1 + 1, 2, none⟩) (by first | (simp; done) | (simp; omega)) (.slice none 0 0))
    generalize (((w1.setCell ⟨w.heap.size + 1 + 1, 0, none⟩ (.int .i64 0)).setCell ⟨w.heap.size + 1 + 1, 1, none⟩ (.slice none 0 0)).setCell ⟨w.heap.size + 1 + 1, 2, none⟩ (.slice none 0 0)) = wz at *
    refine bodyPost_ret (v := .tuple #[machV 0 none 0 0 none 0 0, .int .i64 4]) (by simp [machV, results, Try.results35, go_sem, t0, t1, t2]) rfl ⟨HBz.out, .inr ⟨HVz.out, i, HF.out, .inl ⟨h64, rfl⟩⟩⟩
  · obtain ⟨n, rfl, rfl, _⟩ := twoE_ok hv
    have HVz := hid hv
    rw [Int.toNat_natCast] at hF hM
    have HF := hid hF
    have HM := hid hM
    have HLt := hid hlt0
    clear hv hF hM hlt0
    unfold machV
    go_wp2
    have t0 : (((w1.setCell ⟨w.heap.size + 1 + 1, 0, none⟩ (.int .i64 (n : Int))).setCell ⟨w.heap.size + 1 + 1, 1, none⟩ (.slice Na5 i nc5)).setCell ⟨w.heap.size + 1 + 1, 2, none⟩ (.slice Aa5 i ac5)).cell? ⟨w.heap.size + 1 + 1, 0, none⟩ = some (.int .i64 (n : Int)) := by go_simp
    have t1 : (((w1.setCell ⟨w.heap.size + 1 + 1, 0, none⟩ (.int .i64 (n : Int))).setCell ⟨w.heap.size + 1 + 1, 1, none⟩ (.slice Na5 i nc5)).setCell ⟨w.heap.size + 1 + 1, 2, none⟩ (.slice Aa5 i ac5)).cell? ⟨w.heap.size + 1 + 1, 1, none⟩ = some (.slice Na5 i nc5) := by go_simp
    have t2 : (((w1.setCell ⟨w.heap.size + 1 + 1, 0, none⟩ (.int .i64 (n : Int))).setCell ⟨w.heap.size + 1 + 1, 1, none⟩ (.slice Na5 i nc5)).setCell ⟨w.heap.size + 1 + 1, 2, none⟩ (.slice Aa5 i ac5)).cell? ⟨w.heap.size + 1 + 1, 2, none⟩ = some (.slice Aa5 i ac5) := by go_simp
    have HBz := hid (((HB2.out.setCell (p := ⟨w.heap.size + 1 + 1, 0, none⟩) (by first | (simp; done) | (simp; omega)) (.int .i64 (n : Int))).setCell (p := ⟨w.heap.size + 1 + 1, 1, none⟩) (by first | (simp; done) | (simp; omega)) (.slice Na5 i nc5)).setCell (p := ⟨w.heap.size + 1 + 1, 2, none⟩) (by first | (simp; done) | (simp; omega)) (.slice Aa5 i ac5))
    have HMz := hid ((((HM.out.setCell ⟨w.heap.size + 1 + 1, 0, none⟩ (.int .i64 (n : Int)) (by first | (simp; done) | (simp; omega))).setCell ⟨w.heap.size + 1 + 1, 1, none⟩ (.slice Na5 i nc5) (by first | (simp; done) | (simp; omega))).setCell ⟨w.heap.size + 1 + 1, 2, none⟩ (.slice Aa5 i ac5) (by first | (simp; done) | (simp; omega))).weak (B' := w.heap.size) HLt.out)
    generalize (((w1.setCell ⟨w.heap.size + 1 + 1, 0, none⟩ (.int .i64 (n : Int))).setCell ⟨w.heap.size + 1 + 1, 1, none⟩ (.slice Na5 i nc5)).setCell ⟨w.heap.size + 1 + 1, 2, none⟩ (.slice Aa5 i ac5)) = wz at *
    refine bodyPost_ret (v := .tuple #[machV n Na5 i nc5 Aa5 i ac5, .int .i64 0]) (by simp [machV, results, Try.results35, go_sem, t0, t1, t2]) rfl ⟨HBz.out, .inr ⟨HVz.out, by rw [Int.toNat_natCast]; exact ⟨i, HF.out, .inr ⟨h64, Na5, nc5, Aa5, ac5, rfl, HMz.out⟩⟩⟩⟩
set_option maxRecDepth 100000 in
set_option maxHeartbeats 4000000 in
theorem rEitherM_any (L : Int) (nc ac : Nat) (Na Aa : Option Addr) (rows : List (List Int)) (accs : List Bool) (L' : Int) (nc' ac' : Nat) (Na' Aa' : Option Addr) (rows' : List (List Int)) (accs' : List Bool) (w : World) (h : MachAt w Na rows Aa accs) (h' : MachAt w Na' rows' Aa' accs') :
    Calls Try.prog 37 #[machV L Na rows.length nc Aa accs.length ac, machV L' Na' rows'.length nc' Aa' accs'.length ac'] w fun e w' => Below w.heap.size w w' ∧ TwoA w' w.heap.size L rows accs L' rows' accs' eithA e := by
  have hB1 : Below w.heap.size w (((w.alloc (.cells #[.int .i64 L, .slice Na rows.length nc, .slice Aa accs.length ac] 25)).alloc (.cells #[.int .i64 L', .slice Na' rows'.length nc', .slice Aa' accs'.length ac'] 25)).alloc (.cells #[.int .i64 0, .slice none 0 0, .slice none 0 0] 25)) := (((Below.refl _ _).alloc (Nat.le_refl _) _).alloc (by simp) _).alloc (by simp; omega) _
  have HV := hid (rProduct_any false true true true L nc ac Na Aa rows accs L' nc' ac' Na' Aa' rows' accs' _ (h.below hB1) (h'.below hB1))
  have HB1 := hid hB1
  clear h h' hB1
  unfold machV at HV ⊢
  go_enter Try.func37, Try.ntmps37
  go_wp2_with fail
  refine HV.out.mono ?_
  rintro e w1 ⟨hb1, hans⟩
  rw [eithA_op] at hans
  have z0 : w1.cell? ⟨w.heap.size + 1 + 1, 0, none⟩ = some (.int .i64 0) := by rw [hb1.cell (by simp)]; go_simp
  have z1 : w1.cell? ⟨w.heap.size + 1 + 1, 1, none⟩ = some (.slice none 0 0) := by rw [hb1.cell (by simp)]; go_simp
  have z2 : w1.cell? ⟨w.heap.size + 1 + 1, 2, none⟩ = some (.slice none 0 0) := by rw [hb1.cell (by simp)]; go_simp
  have y0 : w1.frozen? ⟨w.heap.size + 1 + 1, 0, none⟩ = false := by rw [hb1.frozen (by simp)]; go_simp
  have y1 : w1.frozen? ⟨w.heap.size + 1 + 1, 1, none⟩ = false := by rw [hb1.frozen (by simp)]; go_simp
  have y2 : w1.frozen? ⟨w.heap.size + 1 + 1, 2, none⟩ = false := by rw [hb1.frozen (by simp)]; go_simp
  have hsz : w.heap.size + 1 + 1 < w1.heap.size := cell_lt z0
  have HB2 := hid (HB1.out.trans (hb1.mono HB1.out.size))
  have hlt0 : w.heap.size ≤ (((w.alloc (.cells #[.int .i64 L, .slice Na rows.length nc, .slice Aa accs.length ac] 25)).alloc (.cells #[.int .i64 L', .slice Na' rows'.length nc', .slice Aa' accs'.length ac'] 25)).alloc (.cells #[.int .i64 0, .slice none 0 0, .slice none 0 0] 25)).heap.size := HB1.out.size
  clear hb1 HV HB1
  rcases hans with ⟨hv, rfl⟩ | ⟨hv, i, hF, ⟨h64, rfl⟩ | ⟨h64, Na5, nc5, Aa5, ac5, rfl, hM⟩⟩
  · generalize hvv : twoE L rows accs L' rows' accs' = v at *
    have HVV := hid hvv
    clear hvv hlt0
    have HV := hid hv
    unfold machV
    go_wp2
    have t0 : (((w1.setCell ⟨w.heap.size + 1 + 1, 0, none⟩ (.int .i64 0)).setCell ⟨w.heap.size + 1 + 1, 1, none⟩ (.slice none 0 0)).setCell ⟨w.heap.size + 1 + 1, 2, none⟩ (.slice none 0 0)).cell? ⟨w.heap.size + 1 + 1, 0, none⟩ = some (.int .i64 0) := by go_simp
    have t1 : (((w1.setCell ⟨w.heap.size + 1 + 1, 0, none⟩ (.int .i64 0)).setCell ⟨w.heap.size + 1 + 1, 1, none⟩ (.slice none 0 0)).setCell ⟨w.heap.size + 1 + 1, 2, none⟩ (.slice none 0 0)).cell? ⟨w.heap.size + 1 + 1, 1, none⟩ = some (.slice none 0 0) := by go_simp
    have t2 : (((w1.setCell ⟨w.heap.size + 1 + 1, 0, none⟩ (.int .i64 0)).setCell ⟨w.heap.size + 1 + 1, 1, none⟩ (.slice none 0 0)).setCell ⟨w.heap.size + 1 + 1, 2, none⟩ (.slice none 0 0)).cell? ⟨w.heap.size + 1 + 1, 2, none⟩ = some (.slice none 0 0) := by go_simp
    have HBz := hid (((HB2.out.setCell (p := ⟨w.heap.size + 1 + 1, 0, none⟩) (by first | (simp; done) | (simp; omega)) (.int .i64 0)).setCell (p := ⟨w.heap.size + 1 + 1, 1, none⟩) (by first | (simp; done) | (simp; omega)) (.slice none 0 0)).setCell (p := ⟨w.heap.size + 1 + 1, 2, none⟩) (by first | (simp; done) | (simp; omega)) (.slice none 0 0))
    generalize (((w1.setCell ⟨w.heap.size + 1 + 1, 0, none⟩ (.int .i64 0)).setCell ⟨w.heap.size + 1 + 1, 1, none⟩ (.slice none 0 0)).setCell ⟨w.heap.size + 1 + 1, 2, none⟩ (.slice none 0 0)) = wz at *
    refine bodyPost_ret (v := .tuple #[machV 0 none 0 0 none 0 0, .int .i64 v]) (by simp [machV, results, Try.results37, go_sem, t0, t1, t2]) rfl ⟨HBz.out, .inl ⟨by rw [HVV.out]; exact HV.out, by rw [HVV.out]⟩⟩
  · obtain ⟨n, rfl, rfl, _⟩ := twoE_ok hv
    have HVz := hid hv
    have HF := hid hF
    clear hv hF hlt0
    unfold machV
    go_wp2
    have t0 : (((w1.setCell ⟨w.heap.size + 1 + 1, 0, none⟩ (.int .i64 0)).setCell ⟨w.heap.size + 1 + 1, 1, none⟩ (.slice none 0 0)).setCell ⟨w.heap.size + 1 + 1, 2, none⟩ (.slice none 0 0)).cell? ⟨w.heap.size + 1 + 1, 0, none⟩ = some (.int .i64 0) := by go_simp
    have t1 : (((w1.setCell ⟨w.heap.size + 1 + 1, 0, none⟩ (.int .i64 0)).setCell ⟨w.heap.size + 1 + 1, 1, none⟩ (.slice none 0 0)).setCell ⟨w.heap.size + 1 + 1, 2, none⟩ (.slice none 0 0)).cell? ⟨w.heap.size + 1 + 1, 1, none⟩ = some (.slice none 0 0) := by go_simp
    have t2 : (((w1.setCell ⟨w.heap.size + 1 + 1, 0, none⟩ (.int .i64 0)).setCell ⟨w.heap.size + 1 + 1, 1, none⟩ (.slice none 0 0)).setCell ⟨w.heap.size + 1 + 1, 2, none⟩ (.slice none 0 0)).cell? ⟨w.heap.size + 1 + 1, 2, none⟩ = some (.slice none 0 0) := by go_simp
    have HBz := hid (((HB2.out.setCell (p := ⟨w.heap.size + 1 + 1, 0, none⟩) (by first | (simp; done) | (simp; omega)) (.int .i64 0)).setCell (p := ⟨w.heap.size + 1 + 1, 1, none⟩) (by first | (simp; done) | (simp; omega)) (.slice none 0 0)).setCell (p := ⟨w.heap.size + 1 + 1, 2, none⟩) (by first | (simp; done) | (simp; omega)) (.slice none 0 0))
    generalize (((w1.setCell ⟨w.heap.size + 1 + 1, 0, none⟩ (.int .i64 0)).setCell ⟨w.heap.size + 1 + 1, 1, none⟩ (.slice none 0 0)).setCell ⟨w.heap.size + 1 + 1, 2, none⟩ (.slice none 0 0)) = wz at *
    refine bodyPost_ret (v := .tuple #[machV 0 none 0 0 none 0 0, .int .i64 4]) (by simp [machV, results, Try.results37, go_sem, t0, t1, t2]) rfl ⟨HBz.out, .inr ⟨HVz.out, i, HF.out, .inl ⟨h64, rfl⟩⟩⟩
  · obtain ⟨n, rfl, rfl, _⟩ := twoE_ok hv
    have HVz := hid hv
    rw [Int.toNat_natCast] at hF hM
    have HF := hid hF
    have HM := hid hM
    have HLt := hid hlt0
    clear hv hF hM hlt0
    unfold machV
    go_wp2
    have t0 : (((w1.setCell ⟨w.heap.size + 1 + 1, 0, none⟩ (.int .i64 (n : Int))).setCell ⟨w.heap.size + 1 + 1, 1, none⟩ (.slice Na5 i nc5)).setCell ⟨w.heap.size + 1 + 1, 2, none⟩ (.slice Aa5 i ac5)).cell? ⟨w.heap.size + 1 + 1, 0, none⟩ = some (.int .i64 (n : Int)) := by go_simp
    have t1 : (((w1.setCell ⟨w.heap.size + 1 + 1, 0, none⟩ (.int .i64 (n : Int))).setCell ⟨w.heap.size + 1 + 1, 1, none⟩ (.slice Na5 i nc5)).setCell ⟨w.heap.size + 1 + 1, 2, none⟩ (.slice Aa5 i ac5)).cell? ⟨w.heap.size + 1 + 1, 1, none⟩ = some (.slice Na5 i nc5) := by go_simp
    have t2 : (((w1.setCell ⟨w.heap.size + 1 + 1, 0, none⟩ (.int .i64 (n : Int))).setCell ⟨w.heap.size + 1 + 1, 1, none⟩ (.slice Na5 i nc5)).setCell ⟨w.heap.size + 1 + 1, 2, none⟩ (.slice Aa5 i ac5)).cell? ⟨w.heap.size + 1 + 1, 2, none⟩ = some (.slice Aa5 i ac5) := by go_simp
    have HBz := hid (((HB2.out.setCell (p := ⟨w.heap.size + 1 + 1, 0, none⟩) (by first | (simp; done) | (simp; omega)) (.int .i64 (n : Int))).setCell (p := ⟨w.heap.size + 1 + 1, 1, none⟩) (by first | (simp; done) | (simp; omega)) (.slice Na5 i nc5)).setCell (p := ⟨w.heap.size + 1 + 1, 2, none⟩) (by first | (simp; done) | (simp; omega)) (.slice Aa5 i ac5))
    have HMz := hid ((((HM.out.setCell ⟨w.heap.size + 1 + 1, 0, none⟩ (.int .i64 (n : Int)) (by first | (simp; done) | (simp; omega))).setCell ⟨w.heap.size + 1 + 1, 1, none⟩ (.slice Na5 i nc5) (by first | (simp; done) | (simp; omega))).setCell ⟨w.heap.size + 1 + 1, 2, none⟩ (.slice Aa5 i ac5) (by first | (simp; done) | (simp; omega))).weak (B' := w.heap.size) HLt.out)
    generalize (((w1.setCell ⟨w.heap.size + 1 + 1, 0, none⟩ (.int .i64 (n : Int))).setCell ⟨w.heap.size + 1 + 1, 1, none⟩ (.slice Na5 i nc5)).setCell ⟨w.heap.size + 1 + 1, 2, none⟩ (.slice Aa5 i ac5)) = wz at *
    refine bodyPost_ret (v := .tuple #[machV n Na5 i nc5 Aa5 i ac5, .int .i64 0]) (by simp [machV, results, Try.results37, go_sem, t0, t1, t2]) rfl ⟨HBz.out, .inr ⟨HVz.out, by rw [Int.toNat_natCast]; exact ⟨i, HF.out, .inr ⟨h64, Na5, nc5, Aa5, ac5, rfl, HMz.out⟩⟩⟩⟩
end Go.Proofs.Ytkboeldafppicaa
