/- Both and Either of the program. -/
import Derived.Test.YtkboeldafppicaaTwin
import Derived.Laws.EntriesVeiled
set_option linter.unusedVariables false
set_option linter.unusedSimpArgs false
namespace Go.Proofs.Ytkboeldafppicaa
open Go.RowKit Go.Maps

/-- Which pairs of states both accept; which at least one; which just one. -/
def bothA (aa ab : List Bool) (s : Two) : Bool := mA aa s.1.toNat && mA ab s.2.toNat
def eithA (aa ab : List Bool) (s : Two) : Bool := mA aa s.1.toNat || mA ab s.2.toNat
def oneA (aa ab : List Bool) (s : Two) : Bool := mA aa s.1.toNat != mA ab s.2.toNat
/-- What two machines together answer. -/
def TwoA (w' : World) (B : Nat) (L : Int) (rows : List (List Int)) (accs : List Bool) (L' : Int) (rows' : List (List Int)) (accs' : List Bool) (op : List Bool → List Bool → Two → Bool) (e : Ending) : Prop :=
  (twoE L rows accs L' rows' accs' ≠ 0 ∧ e = .returned (.tuple #[machV 0 none 0 0 none 0 0, .int .i64 (twoE L rows accs L' rows' accs')])) ∨ (twoE L rows accs L' rows' accs' = 0 ∧ PlainAns w' B L.toNat (langOf L.toNat (tw rows rows') (op accs accs') (0, 0)) e)
theorem twoE_ok {L : Int} {rows : List (List Int)} {accs : List Bool} {L' : Int} {rows' : List (List Int)} {accs' : List Bool} (h : twoE L rows accs L' rows' accs' = 0) : ∃ n : Nat, L = n ∧ L' = n ∧ GoodM n rows accs ∧ GoodM n rows' accs' ∧ rows.length ≤ 64 ∧ rows'.length ≤ 64 := by
  unfold twoE at h
  split at h
  · rename_i h1; exact absurd h h1
  · rename_i h1
    split at h
    · rename_i h2; exact absurd h h2
    · rename_i h2
      split at h
      · cases h
      · rename_i h3
        have e1 : vE L rows accs = 0 := Classical.byContradiction h1
        have e2 : vE L' rows' accs' = 0 := Classical.byContradiction h2
        have e3 : L = L' := Classical.byContradiction h3
        subst e3
        obtain ⟨n, rfl⟩ := vE_nat e1
        obtain ⟨g1, g2⟩ := vE_ok e1
        obtain ⟨g3, g4⟩ := vE_ok e2
        exact ⟨n, rfl, rfl, g1, g3, g2, g4⟩
theorem egTw : (∀ args (w : World), (callFunc 125 args).run Try.prog w = .ok (.enter 125 args) w) ∧ (∀ args (w : World), (callFunc 87 args).run Try.prog w = .ok (.enter 87 args) w) ∧ (∀ args (w : World), (callFunc 90 args).run Try.prog w = .ok (.enter 90 args) w) := ⟨fun _ _ => by kernel_rfl, fun _ _ => by kernel_rfl, fun _ _ => by kernel_rfl⟩
theorem inT_64 {ra rb : List (List Int)} (h : ra.length ≤ 64 := by assumption) (h' : rb.length ≤ 64 := by assumption) : ∀ s, InT ra rb s → I64 s.1 ∧ I64 s.2 := by
  rintro s ⟨i, j, rfl, hi, hj⟩
  dsimp only
  exact ⟨by unfold I64; omega, by unfold I64; omega⟩
set_option maxRecDepth 100000 in
set_option maxHeartbeats 1000000 in
theorem twRule_any (L nc ac nc' ac' : Nat) (Na Aa Na' Aa' : Option Addr) (ra rb : List (List Int)) (fA : Nat) (preA postA : Array Value) (w : World) :
    Calls Try.prog 76 #[twV L Na ra.length nc Aa ac Na' rb.length nc' Aa' ac', .func (.func fA) preA postA] w fun e w' => Below w.heap.size w w' ∧ e = .returned (.agg #[.int .i64 (L : Int), .int .i64 0, .int .i64 0, .func (.func 125) #[twV L Na ra.length nc Aa ac Na' rb.length nc' Aa' ac'] #[], .func (.func fA) preA postA]) := by
  have hB := hid (show Below w.heap.size w (w.alloc (.cells #[.int .i64 (L : Int), .slice Na ra.length nc, .slice Aa ra.length ac, .int .i64 (L : Int), .slice Na' rb.length nc', .slice Aa' rb.length ac'] 83)) from (Below.refl _ _).alloc (Nat.le_refl _) _)
  unfold twV
  go_enter Try.func76, Try.ntmps76
  go_wp2
  have t0 : ((w.alloc (.cells #[.int .i64 (L : Int), .slice Na ra.length nc, .slice Aa ra.length ac, .int .i64 (L : Int), .slice Na' rb.length nc', .slice Aa' rb.length ac'] 83)).alloc (.cells #[.int .i64 (L : Int), .int .i64 0, .int .i64 0, .func (.func 125) #[.agg #[.int .i64 (L : Int), .slice Na ra.length nc, .slice Aa ra.length ac, .int .i64 (L : Int), .slice Na' rb.length nc', .slice Aa' rb.length ac']] #[], .func (.func fA) preA postA] 88)).cell? ⟨w.heap.size + 1, 0, none⟩ = some (.int .i64 (L : Int)) := by go_simp
  have t1 : ((w.alloc (.cells #[.int .i64 (L : Int), .slice Na ra.length nc, .slice Aa ra.length ac, .int .i64 (L : Int), .slice Na' rb.length nc', .slice Aa' rb.length ac'] 83)).alloc (.cells #[.int .i64 (L : Int), .int .i64 0, .int .i64 0, .func (.func 125) #[.agg #[.int .i64 (L : Int), .slice Na ra.length nc, .slice Aa ra.length ac, .int .i64 (L : Int), .slice Na' rb.length nc', .slice Aa' rb.length ac']] #[], .func (.func fA) preA postA] 88)).cell? ⟨w.heap.size + 1, 1, none⟩ = some (.int .i64 0) := by go_simp
  have t2 : ((w.alloc (.cells #[.int .i64 (L : Int), .slice Na ra.length nc, .slice Aa ra.length ac, .int .i64 (L : Int), .slice Na' rb.length nc', .slice Aa' rb.length ac'] 83)).alloc (.cells #[.int .i64 (L : Int), .int .i64 0, .int .i64 0, .func (.func 125) #[.agg #[.int .i64 (L : Int), .slice Na ra.length nc, .slice Aa ra.length ac, .int .i64 (L : Int), .slice Na' rb.length nc', .slice Aa' rb.length ac']] #[], .func (.func fA) preA postA] 88)).cell? ⟨w.heap.size + 1, 2, none⟩ = some (.int .i64 0) := by go_simp
  have t3 : ((w.alloc (.cells #[.int .i64 (L : Int), .slice Na ra.length nc, .slice Aa ra.length ac, .int .i64 (L : Int), .slice Na' rb.length nc', .slice Aa' rb.length ac'] 83)).alloc (.cells #[.int .i64 (L : Int), .int .i64 0, .int .i64 0, .func (.func 125) #[.agg #[.int .i64 (L : Int), .slice Na ra.length nc, .slice Aa ra.length ac, .int .i64 (L : Int), .slice Na' rb.length nc', .slice Aa' rb.length ac']] #[], .func (.func fA) preA postA] 88)).cell? ⟨w.heap.size + 1, 3, none⟩ = some (.func (.func 125) #[.agg #[.int .i64 (L : Int), .slice Na ra.length nc, .slice Aa ra.length ac, .int .i64 (L : Int), .slice Na' rb.length nc', .slice Aa' rb.length ac']] #[]) := by go_simp
  have t4 : ((w.alloc (.cells #[.int .i64 (L : Int), .slice Na ra.length nc, .slice Aa ra.length ac, .int .i64 (L : Int), .slice Na' rb.length nc', .slice Aa' rb.length ac'] 83)).alloc (.cells #[.int .i64 (L : Int), .int .i64 0, .int .i64 0, .func (.func 125) #[.agg #[.int .i64 (L : Int), .slice Na ra.length nc, .slice Aa ra.length ac, .int .i64 (L : Int), .slice Na' rb.length nc', .slice Aa' rb.length ac']] #[], .func (.func fA) preA postA] 88)).cell? ⟨w.heap.size + 1, 4, none⟩ = some (.func (.func fA) preA postA) := by go_simp
  have hbz := hid (hB.out.alloc hB.out.size (.cells #[.int .i64 (L : Int), .int .i64 0, .int .i64 0, .func (.func 125) #[.agg #[.int .i64 (L : Int), .slice Na ra.length nc, .slice Aa ra.length ac, .int .i64 (L : Int), .slice Na' rb.length nc', .slice Aa' rb.length ac']] #[], .func (.func fA) preA postA] 88))
  refine bodyPost_ret (v := .agg #[.int .i64 (L : Int), .int .i64 0, .int .i64 0, .func (.func 125) #[.agg #[.int .i64 (L : Int), .slice Na ra.length nc, .slice Aa ra.length ac, .int .i64 (L : Int), .slice Na' rb.length nc', .slice Aa' rb.length ac']] #[], .func (.func fA) preA postA]) (by simp [results, Try.results76, go_sem, t0, t1, t2, t3, t4]) rfl ⟨hbz.out, rfl⟩
set_option maxRecDepth 100000 in
set_option maxHeartbeats 4000000 in
theorem mBoth_any (L : Int) (nc ac : Nat) (Na Aa : Option Addr) (rows : List (List Int)) (accs : List Bool) (L' : Int) (nc' ac' : Nat) (Na' Aa' : Option Addr) (rows' : List (List Int)) (accs' : List Bool) (w : World) (h : MachAt w Na rows Aa accs) (h' : MachAt w Na' rows' Aa' accs') :
    Calls Try.prog 34 #[machV L Na rows.length nc Aa accs.length ac, machV L' Na' rows'.length nc' Aa' accs'.length ac'] w fun e w' => Below w.heap.size w w' ∧ TwoA w' w.heap.size L rows accs L' rows' accs' bothA e := by
  have hB1 : Below w.heap.size w (((w.alloc (.cells #[.int .i64 L, .slice Na rows.length nc, .slice Aa accs.length ac] 25)).alloc (.cells #[.int .i64 L', .slice Na' rows'.length nc', .slice Aa' accs'.length ac'] 25)).alloc (.cells #[.int .i64 0, .slice none 0 0, .slice none 0 0] 25)) := (((Below.refl _ _).alloc (Nat.le_refl _) _).alloc (by simp) _).alloc (by simp; omega) _
  have HM1 := hid (h.below hB1)
  have HM1' := hid (h'.below hB1)
  have HV := hid (mCheckTwo_any L nc ac Na Aa rows accs L' nc' ac' Na' Aa' rows' accs' _ HM1.out HM1'.out)
  have HB1 := hid hB1
  have hvr := twoE_ok (L := L) (rows := rows) (accs := accs) (L' := L') (rows' := rows') (accs' := accs')
  have HVr := hid hvr
  clear h h' hB1 hvr
  unfold machV at HV ⊢
  go_enter Try.func34, Try.ntmps34
  go_wp2_with fail
  refine HV.out.mono ?_
  rintro e w1 ⟨hb1, rfl⟩
  have z0 : w1.cell? ⟨w.heap.size + 1 + 1, 0, none⟩ = some (.int .i64 0) := by rw [hb1.cell (by simp)]; go_simp
  have z1 : w1.cell? ⟨w.heap.size + 1 + 1, 1, none⟩ = some (.slice none 0 0) := by rw [hb1.cell (by simp)]; go_simp
  have z2 : w1.cell? ⟨w.heap.size + 1 + 1, 2, none⟩ = some (.slice none 0 0) := by rw [hb1.cell (by simp)]; go_simp
  have y0 : w1.frozen? ⟨w.heap.size + 1 + 1, 0, none⟩ = false := by rw [hb1.frozen (by simp)]; go_simp
  have y1 : w1.frozen? ⟨w.heap.size + 1 + 1, 1, none⟩ = false := by rw [hb1.frozen (by simp)]; go_simp
  have y2 : w1.frozen? ⟨w.heap.size + 1 + 1, 2, none⟩ = false := by rw [hb1.frozen (by simp)]; go_simp
  have m0 : w1.cell? ⟨w.heap.size, 0, none⟩ = some (.int .i64 L) := by rw [hb1.cell (by first | (simp; done) | (simp; omega))]; go_simp
  have m1 : w1.cell? ⟨w.heap.size, 1, none⟩ = some (.slice Na rows.length nc) := by rw [hb1.cell (by first | (simp; done) | (simp; omega))]; go_simp
  have m2 : w1.cell? ⟨w.heap.size, 2, none⟩ = some (.slice Aa accs.length ac) := by rw [hb1.cell (by first | (simp; done) | (simp; omega))]; go_simp
  have n0 : w1.cell? ⟨w.heap.size + 1, 0, none⟩ = some (.int .i64 L') := by rw [hb1.cell (by first | (simp; done) | (simp; omega))]; go_simp
  have n1 : w1.cell? ⟨w.heap.size + 1, 1, none⟩ = some (.slice Na' rows'.length nc') := by rw [hb1.cell (by first | (simp; done) | (simp; omega))]; go_simp
  have n2 : w1.cell? ⟨w.heap.size + 1, 2, none⟩ = some (.slice Aa' accs'.length ac') := by rw [hb1.cell (by first | (simp; done) | (simp; omega))]; go_simp
  have hsz : w.heap.size + 1 + 1 < w1.heap.size := cell_lt z0
  have HB2 := hid (HB1.out.trans (hb1.mono HB1.out.size))
  have HM2 := hid (HM1.out.below hb1)
  have HM2' := hid (HM1'.out.below hb1)
  clear hb1 HM1 HM1' HV HB1
  by_cases hv : twoE L rows accs L' rows' accs' = 0
  · obtain ⟨n, hLn, hLn', hg, hg', h64, h64'⟩ := HVr.out hv
    subst hLn
    subst hLn'
    have HG := hid hg
    have HG' := hid hg'
    have HVz := hid hv
    have hal := hg.acc
    have hal' := hg'.acc
    rw [hal] at m2
    rw [hal'] at n2
    rw [hal, hal', hv]
    have hA2 : Below w1.heap.size w1 (w1.alloc (.cells #[.int .i64 (n : Int), .slice Na rows.length nc, .slice Aa rows.length ac, .int .i64 (n : Int), .slice Na' rows'.length nc', .slice Aa' rows'.length ac'] 83)) := (Below.refl _ _).alloc (Nat.le_refl _) _
    have HM3 := hid (HM2.out.below hA2)
    have HM3' := hid (HM2'.out.below hA2)
    have HB3 := hid (HB2.out.trans (hA2.mono HB2.out.size))
    have HRu := hid (twRule_any n nc ac nc' ac' Na Aa Na' Aa' rows rows' 87 #[twV n Na rows.length nc Aa ac Na' rows'.length nc' Aa' ac'] #[] (w1.alloc (.cells #[.int .i64 (n : Int), .slice Na rows.length nc, .slice Aa rows.length ac, .int .i64 (n : Int), .slice Na' rows'.length nc', .slice Aa' rows'.length ac'] 83)))
    have HPl := hid (fun (wx : World) (hb : Below w.heap.size w wx) (hm : MachAt wx Na rows Aa accs) (hm' : MachAt wx Na' rows' Aa' accs') => plainT_any n hg.hi hg.lo (0, 0) (tw rows rows') (bothA accs accs') (InT rows rows') 4096 125 87 #[twV n Na rows.length nc Aa ac Na' rows'.length nc' Aa' ac'] #[] #[twV n Na rows.length nc Aa ac Na' rows'.length nc' Aa' ac'] #[] wx (inT_start hg.pos hg'.pos) (inT_next hg.cl hg'.cl) inT_64 (fun l hn hh => Nat.le_trans (inT_bound l hn hh) (Nat.mul_le_mul h64 h64')) (by omega) egTw.1 egTw.2.1 (fun w' s c hb h hc => by
      obtain ⟨i, j, rfl, hi, hj⟩ := h
      have := twNext_any n nc ac nc' ac' Na Aa Na' Aa' rows rows' accs accs' i j c w' (hm.below hb) (hm'.below hb) hg hg' hi hj hc
      exact this.mono (by rintro e w'' ⟨hb2, rfl⟩; exact ⟨hb2, by unfold V2 tw; simp⟩)) (fun w' s hb h => by
      obtain ⟨i, j, rfl, hi, hj⟩ := h
      have := twBoth_any n nc ac nc' ac' Na Aa Na' Aa' rows rows' accs accs' i j w' (hm.below hb) (hm'.below hb) hg hg' hi hj
      exact this.mono (by rintro e w'' ⟨hb2, rfl⟩; exact ⟨hb2, by unfold bothA; simp⟩)))
    unfold twV at HRu HPl
    clear hg hg' hv hal hal'
    have z0 := (hA2.cell (cell_lt z0)).trans z0
    have z1 := (hA2.cell (cell_lt z1)).trans z1
    have z2 := (hA2.cell (cell_lt z2)).trans z2
    have y0 := (hA2.frozen (p := ⟨w.heap.size + 1 + 1, 0, none⟩) hsz).trans y0
    have y1 := (hA2.frozen (p := ⟨w.heap.size + 1 + 1, 1, none⟩) hsz).trans y1
    have y2 := (hA2.frozen (p := ⟨w.heap.size + 1 + 1, 2, none⟩) hsz).trans y2
    have hsz3 : w.heap.size + 1 + 1 < (w1.alloc (.cells #[.int .i64 (n : Int), .slice Na rows.length nc, .slice Aa rows.length ac, .int .i64 (n : Int), .slice Na' rows'.length nc', .slice Aa' rows'.length ac'] 83)).heap.size := by simp; omega
    go_wp2_with fail
    refine HRu.out.mono ?_
    rintro e w4 ⟨hb4, rfl⟩
    have z0 := (hb4.cell (cell_lt z0)).trans z0
    have z1 := (hb4.cell (cell_lt z1)).trans z1
    have z2 := (hb4.cell (cell_lt z2)).trans z2
    have y0 := (hb4.frozen (p := ⟨w.heap.size + 1 + 1, 0, none⟩) hsz3).trans y0
    have y1 := (hb4.frozen (p := ⟨w.heap.size + 1 + 1, 1, none⟩) hsz3).trans y1
    have y2 := (hb4.frozen (p := ⟨w.heap.size + 1 + 1, 2, none⟩) hsz3).trans y2
    have HB4 := hid (HB3.out.trans (hb4.mono HB3.out.size))
    have HM4 := hid (HM3.out.below hb4)
    have HM4' := hid (HM3'.out.below hb4)
    have hsz4 : w.heap.size + 1 + 1 < w4.heap.size := cell_lt z0
    clear hb4 HRu hA2 hsz3 m0 m1 m2 n0 n1 n2
    go_wp2_with fail
    refine (HPl.out _ HB4.out HM4.out HM4'.out).mono ?_
    rintro e w5 ⟨hb5, i, hF, hans⟩
    have hsz5 : w.heap.size + 1 + 1 < w5.heap.size := by have := hb5.size; omega
    have z0 := (hb5.cell (cell_lt z0)).trans z0
    have z1 := (hb5.cell (cell_lt z1)).trans z1
    have z2 := (hb5.cell (cell_lt z2)).trans z2
    have y0 := (hb5.frozen (p := ⟨w.heap.size + 1 + 1, 0, none⟩) hsz4).trans y0
    have y1 := (hb5.frozen (p := ⟨w.heap.size + 1 + 1, 1, none⟩) hsz4).trans y1
    have y2 := (hb5.frozen (p := ⟨w.heap.size + 1 + 1, 2, none⟩) hsz4).trans y2
    have HB5 := hid (HB4.out.trans (hb5.mono HB4.out.size))
    have HF := hid hF
    clear hb5 hF HPl HM4 HM4'
    rcases hans with ⟨h64, rfl⟩ | ⟨h64, Na5, nc5, Aa5, ac5, rfl, hM⟩
    · unfold machV
      go_wp2
      have t0 : (((w5.setCell ⟨w.heap.size + 1 + 1, 0, none⟩ (.int .i64 0)).setCell ⟨w.heap.size + 1 + 1, 1, none⟩ (.slice none 0 0)).setCell ⟨w.heap.size + 1 + 1, 2, none⟩ (.slice none 0 0)).cell? ⟨w.heap.size + 1 + 1, 0, none⟩ = some (.int .i64 0) := by go_simp
      have t1 : (((w5.setCell ⟨w.heap.size + 1 + 1, 0, none⟩ (.int .i64 0)).setCell ⟨w.heap.size + 1 + 1, 1, none⟩ (.slice none 0 0)).setCell ⟨w.heap.size + 1 + 1, 2, none⟩ (.slice none 0 0)).cell? ⟨w.heap.size + 1 + 1, 1, none⟩ = some (.slice none 0 0) := by go_simp
      have t2 : (((w5.setCell ⟨w.heap.size + 1 + 1, 0, none⟩ (.int .i64 0)).setCell ⟨w.heap.size + 1 + 1, 1, none⟩ (.slice none 0 0)).setCell ⟨w.heap.size + 1 + 1, 2, none⟩ (.slice none 0 0)).cell? ⟨w.heap.size + 1 + 1, 2, none⟩ = some (.slice none 0 0) := by go_simp
      have HBz := hid (((HB5.out.setCell (p := ⟨w.heap.size + 1 + 1, 0, none⟩) (by simp; omega) (.int .i64 0)).setCell (p := ⟨w.heap.size + 1 + 1, 1, none⟩) (by simp; omega) (.slice none 0 0)).setCell (p := ⟨w.heap.size + 1 + 1, 2, none⟩) (by simp; omega) (.slice none 0 0))
      generalize (((w5.setCell ⟨w.heap.size + 1 + 1, 0, none⟩ (.int .i64 0)).setCell ⟨w.heap.size + 1 + 1, 1, none⟩ (.slice none 0 0)).setCell ⟨w.heap.size + 1 + 1, 2, none⟩ (.slice none 0 0)) = wz at *
      refine bodyPost_ret (v := .tuple #[machV 0 none 0 0 none 0 0, .int .i64 4]) (by simp [machV, results, Try.results34, go_sem, t0, t1, t2]) rfl ⟨HBz.out, .inr ⟨HVz.out, by rw [Int.toNat_natCast]; exact ⟨i, HF.out, .inl ⟨h64, rfl⟩⟩⟩⟩
    · unfold machV
      have HM := hid hM
      clear hM
      go_wp2
      have t0 : (((w5.setCell ⟨w.heap.size + 1 + 1, 0, none⟩ (.int .i64 (n : Int))).setCell ⟨w.heap.size + 1 + 1, 1, none⟩ (.slice Na5 i nc5)).setCell ⟨w.heap.size + 1 + 1, 2, none⟩ (.slice Aa5 i ac5)).cell? ⟨w.heap.size + 1 + 1, 0, none⟩ = some (.int .i64 (n : Int)) := by go_simp
      have t1 : (((w5.setCell ⟨w.heap.size + 1 + 1, 0, none⟩ (.int .i64 (n : Int))).setCell ⟨w.heap.size + 1 + 1, 1, none⟩ (.slice Na5 i nc5)).setCell ⟨w.heap.size + 1 + 1, 2, none⟩ (.slice Aa5 i ac5)).cell? ⟨w.heap.size + 1 + 1, 1, none⟩ = some (.slice Na5 i nc5) := by go_simp
      have t2 : (((w5.setCell ⟨w.heap.size + 1 + 1, 0, none⟩ (.int .i64 (n : Int))).setCell ⟨w.heap.size + 1 + 1, 1, none⟩ (.slice Na5 i nc5)).setCell ⟨w.heap.size + 1 + 1, 2, none⟩ (.slice Aa5 i ac5)).cell? ⟨w.heap.size + 1 + 1, 2, none⟩ = some (.slice Aa5 i ac5) := by go_simp
      have HBz := hid (((HB5.out.setCell (p := ⟨w.heap.size + 1 + 1, 0, none⟩) (by simp; omega) (.int .i64 (n : Int))).setCell (p := ⟨w.heap.size + 1 + 1, 1, none⟩) (by simp; omega) (.slice Na5 i nc5)).setCell (p := ⟨w.heap.size + 1 + 1, 2, none⟩) (by simp; omega) (.slice Aa5 i ac5))
      have HMz := hid ((((HM.out.setCell ⟨w.heap.size + 1 + 1, 0, none⟩ (.int .i64 (n : Int)) (by simp; omega)).setCell ⟨w.heap.size + 1 + 1, 1, none⟩ (.slice Na5 i nc5) (by simp; omega)).setCell ⟨w.heap.size + 1 + 1, 2, none⟩ (.slice Aa5 i ac5) (by simp; omega)).weak (B' := w.heap.size) (by omega))
      generalize (((w5.setCell ⟨w.heap.size + 1 + 1, 0, none⟩ (.int .i64 (n : Int))).setCell ⟨w.heap.size + 1 + 1, 1, none⟩ (.slice Na5 i nc5)).setCell ⟨w.heap.size + 1 + 1, 2, none⟩ (.slice Aa5 i ac5)) = wz at *
      refine bodyPost_ret (v := .tuple #[machV n Na5 i nc5 Aa5 i ac5, .int .i64 0]) (by simp [machV, results, Try.results34, go_sem, t0, t1, t2]) rfl ⟨HBz.out, .inr ⟨HVz.out, by rw [Int.toNat_natCast]; exact ⟨i, HF.out, .inr ⟨h64, Na5, nc5, Aa5, ac5, rfl, HMz.out⟩⟩⟩⟩
  · have hv1 : (twoE L rows accs L' rows' accs' != 0) = true := by simpa using hv
    have HV := hid hv
    clear hv
    generalize hvv : twoE L rows accs L' rows' accs' = v at *
    have HVV := hid hvv
    clear hvv m0 m1 m2 n0 n1 n2
    go_wp2
    have t0 : (((w1.setCell ⟨w.heap.size + 1 + 1, 0, none⟩ (.int .i64 0)).setCell ⟨w.heap.size + 1 + 1, 1, none⟩ (.slice none 0 0)).setCell ⟨w.heap.size + 1 + 1, 2, none⟩ (.slice none 0 0)).cell? ⟨w.heap.size + 1 + 1, 0, none⟩ = some (.int .i64 0) := by go_simp
    have t1 : (((w1.setCell ⟨w.heap.size + 1 + 1, 0, none⟩ (.int .i64 0)).setCell ⟨w.heap.size + 1 + 1, 1, none⟩ (.slice none 0 0)).setCell ⟨w.heap.size + 1 + 1, 2, none⟩ (.slice none 0 0)).cell? ⟨w.heap.size + 1 + 1, 1, none⟩ = some (.slice none 0 0) := by go_simp
    have t2 : (((w1.setCell ⟨w.heap.size + 1 + 1, 0, none⟩ (.int .i64 0)).setCell ⟨w.heap.size + 1 + 1, 1, none⟩ (.slice none 0 0)).setCell ⟨w.heap.size + 1 + 1, 2, none⟩ (.slice none 0 0)).cell? ⟨w.heap.size + 1 + 1, 2, none⟩ = some (.slice none 0 0) := by go_simp
    have HBz := hid (((HB2.out.setCell (p := ⟨w.heap.size + 1 + 1, 0, none⟩) (by simp; omega) (.int .i64 0)).setCell (p := ⟨w.heap.size + 1 + 1, 1, none⟩) (by simp; omega) (.slice none 0 0)).setCell (p := ⟨w.heap.size + 1 + 1, 2, none⟩) (by simp; omega) (.slice none 0 0))
    generalize (((w1.setCell ⟨w.heap.size + 1 + 1, 0, none⟩ (.int .i64 0)).setCell ⟨w.heap.size + 1 + 1, 1, none⟩ (.slice none 0 0)).setCell ⟨w.heap.size + 1 + 1, 2, none⟩ (.slice none 0 0)) = wz at *
    refine bodyPost_ret (v := .tuple #[machV 0 none 0 0 none 0 0, .int .i64 v]) (by simp [machV, results, Try.results34, go_sem, t0, t1, t2]) rfl ⟨HBz.out, .inl ⟨by rw [HVV.out]; exact HV.out, by rw [HVV.out]⟩⟩
set_option maxRecDepth 100000 in
set_option maxHeartbeats 4000000 in
theorem mEither_any (L : Int) (nc ac : Nat) (Na Aa : Option Addr) (rows : List (List Int)) (accs : List Bool) (L' : Int) (nc' ac' : Nat) (Na' Aa' : Option Addr) (rows' : List (List Int)) (accs' : List Bool) (w : World) (h : MachAt w Na rows Aa accs) (h' : MachAt w Na' rows' Aa' accs') :
    Calls Try.prog 36 #[machV L Na rows.length nc Aa accs.length ac, machV L' Na' rows'.length nc' Aa' accs'.length ac'] w fun e w' => Below w.heap.size w w' ∧ TwoA w' w.heap.size L rows accs L' rows' accs' eithA e := by
  have hB1 : Below w.heap.size w (((w.alloc (.cells #[.int .i64 L, .slice Na rows.length nc, .slice Aa accs.length ac] 25)).alloc (.cells #[.int .i64 L', .slice Na' rows'.length nc', .slice Aa' accs'.length ac'] 25)).alloc (.cells #[.int .i64 0, .slice none 0 0, .slice none 0 0] 25)) := (((Below.refl _ _).alloc (Nat.le_refl _) _).alloc (by simp) _).alloc (by simp; omega) _
  have HM1 := hid (h.below hB1)
  have HM1' := hid (h'.below hB1)
  have HV := hid (mCheckTwo_any L nc ac Na Aa rows accs L' nc' ac' Na' Aa' rows' accs' _ HM1.out HM1'.out)
  have HB1 := hid hB1
  have hvr := twoE_ok (L := L) (rows := rows) (accs := accs) (L' := L') (rows' := rows') (accs' := accs')
  have HVr := hid hvr
  clear h h' hB1 hvr
  unfold machV at HV ⊢
  go_enter Try.func36, Try.ntmps36
  go_wp2_with fail
  refine HV.out.mono ?_
  rintro e w1 ⟨hb1, rfl⟩
  have z0 : w1.cell? ⟨w.heap.size + 1 + 1, 0, none⟩ = some (.int .i64 0) := by rw [hb1.cell (by simp)]; go_simp
  have z1 : w1.cell? ⟨w.heap.size + 1 + 1, 1, none⟩ = some (.slice none 0 0) := by rw [hb1.cell (by simp)]; go_simp
  have z2 : w1.cell? ⟨w.heap.size + 1 + 1, 2, none⟩ = some (.slice none 0 0) := by rw [hb1.cell (by simp)]; go_simp
  have y0 : w1.frozen? ⟨w.heap.size + 1 + 1, 0, none⟩ = false := by rw [hb1.frozen (by simp)]; go_simp
  have y1 : w1.frozen? ⟨w.heap.size + 1 + 1, 1, none⟩ = false := by rw [hb1.frozen (by simp)]; go_simp
  have y2 : w1.frozen? ⟨w.heap.size + 1 + 1, 2, none⟩ = false := by rw [hb1.frozen (by simp)]; go_simp
  have m0 : w1.cell? ⟨w.heap.size, 0, none⟩ = some (.int .i64 L) := by rw [hb1.cell (by first | (simp; done) | (simp; omega))]; go_simp
  have m1 : w1.cell? ⟨w.heap.size, 1, none⟩ = some (.slice Na rows.length nc) := by rw [hb1.cell (by first | (simp; done) | (simp; omega))]; go_simp
  have m2 : w1.cell? ⟨w.heap.size, 2, none⟩ = some (.slice Aa accs.length ac) := by rw [hb1.cell (by first | (simp; done) | (simp; omega))]; go_simp
  have n0 : w1.cell? ⟨w.heap.size + 1, 0, none⟩ = some (.int .i64 L') := by rw [hb1.cell (by first | (simp; done) | (simp; omega))]; go_simp
  have n1 : w1.cell? ⟨w.heap.size + 1, 1, none⟩ = some (.slice Na' rows'.length nc') := by rw [hb1.cell (by first | (simp; done) | (simp; omega))]; go_simp
  have n2 : w1.cell? ⟨w.heap.size + 1, 2, none⟩ = some (.slice Aa' accs'.length ac') := by rw [hb1.cell (by first | (simp; done) | (simp; omega))]; go_simp
  have hsz : w.heap.size + 1 + 1 < w1.heap.size := cell_lt z0
  have HB2 := hid (HB1.out.trans (hb1.mono HB1.out.size))
  have HM2 := hid (HM1.out.below hb1)
  have HM2' := hid (HM1'.out.below hb1)
  clear hb1 HM1 HM1' HV HB1
  by_cases hv : twoE L rows accs L' rows' accs' = 0
  · obtain ⟨n, hLn, hLn', hg, hg', h64, h64'⟩ := HVr.out hv
    subst hLn
    subst hLn'
    have HG := hid hg
    have HG' := hid hg'
    have HVz := hid hv
    have hal := hg.acc
    have hal' := hg'.acc
    rw [hal] at m2
    rw [hal'] at n2
    rw [hal, hal', hv]
    have hA2 : Below w1.heap.size w1 (w1.alloc (.cells #[.int .i64 (n : Int), .slice Na rows.length nc, .slice Aa rows.length ac, .int .i64 (n : Int), .slice Na' rows'.length nc', .slice Aa' rows'.length ac'] 83)) := (Below.refl _ _).alloc (Nat.le_refl _) _
    have HM3 := hid (HM2.out.below hA2)
    have HM3' := hid (HM2'.out.below hA2)
    have HB3 := hid (HB2.out.trans (hA2.mono HB2.out.size))
    have HRu := hid (twRule_any n nc ac nc' ac' Na Aa Na' Aa' rows rows' 90 #[twV n Na rows.length nc Aa ac Na' rows'.length nc' Aa' ac'] #[] (w1.alloc (.cells #[.int .i64 (n : Int), .slice Na rows.length nc, .slice Aa rows.length ac, .int .i64 (n : Int), .slice Na' rows'.length nc', .slice Aa' rows'.length ac'] 83)))
    have HPl := hid (fun (wx : World) (hb : Below w.heap.size w wx) (hm : MachAt wx Na rows Aa accs) (hm' : MachAt wx Na' rows' Aa' accs') => plainT_any n hg.hi hg.lo (0, 0) (tw rows rows') (eithA accs accs') (InT rows rows') 4096 125 90 #[twV n Na rows.length nc Aa ac Na' rows'.length nc' Aa' ac'] #[] #[twV n Na rows.length nc Aa ac Na' rows'.length nc' Aa' ac'] #[] wx (inT_start hg.pos hg'.pos) (inT_next hg.cl hg'.cl) inT_64 (fun l hn hh => Nat.le_trans (inT_bound l hn hh) (Nat.mul_le_mul h64 h64')) (by omega) egTw.1 egTw.2.2 (fun w' s c hb h hc => by
      obtain ⟨i, j, rfl, hi, hj⟩ := h
      have := twNext_any n nc ac nc' ac' Na Aa Na' Aa' rows rows' accs accs' i j c w' (hm.below hb) (hm'.below hb) hg hg' hi hj hc
      exact this.mono (by rintro e w'' ⟨hb2, rfl⟩; exact ⟨hb2, by unfold V2 tw; simp⟩)) (fun w' s hb h => by
      obtain ⟨i, j, rfl, hi, hj⟩ := h
      have := twEither_any n nc ac nc' ac' Na Aa Na' Aa' rows rows' accs accs' i j w' (hm.below hb) (hm'.below hb) hg hg' hi hj
      exact this.mono (by rintro e w'' ⟨hb2, rfl⟩; exact ⟨hb2, by unfold eithA; simp⟩)))
    unfold twV at HRu HPl
    clear hg hg' hv hal hal'
    have z0 := (hA2.cell (cell_lt z0)).trans z0
    have z1 := (hA2.cell (cell_lt z1)).trans z1
    have z2 := (hA2.cell (cell_lt z2)).trans z2
    have y0 := (hA2.frozen (p := ⟨w.heap.size + 1 + 1, 0, none⟩) hsz).trans y0
    have y1 := (hA2.frozen (p := ⟨w.heap.size + 1 + 1, 1, none⟩) hsz).trans y1
    have y2 := (hA2.frozen (p := ⟨w.heap.size + 1 + 1, 2, none⟩) hsz).trans y2
    have hsz3 : w.heap.size + 1 + 1 < (w1.alloc (.cells #[.int .i64 (n : Int), .slice Na rows.length nc, .slice Aa rows.length ac, .int .i64 (n : Int), .slice Na' rows'.length nc', .slice Aa' rows'.length ac'] 83)).heap.size := by simp; omega
    go_wp2_with fail
    refine HRu.out.mono ?_
    rintro e w4 ⟨hb4, rfl⟩
    have z0 := (hb4.cell (cell_lt z0)).trans z0
    have z1 := (hb4.cell (cell_lt z1)).trans z1
    have z2 := (hb4.cell (cell_lt z2)).trans z2
    have y0 := (hb4.frozen (p := ⟨w.heap.size + 1 + 1, 0, none⟩) hsz3).trans y0
    have y1 := (hb4.frozen (p := ⟨w.heap.size + 1 + 1, 1, none⟩) hsz3).trans y1
    have y2 := (hb4.frozen (p := ⟨w.heap.size + 1 + 1, 2, none⟩) hsz3).trans y2
    have HB4 := hid (HB3.out.trans (hb4.mono HB3.out.size))
    have HM4 := hid (HM3.out.below hb4)
    have HM4' := hid (HM3'.out.below hb4)
    have hsz4 : w.heap.size + 1 + 1 < w4.heap.size := cell_lt z0
    clear hb4 HRu hA2 hsz3 m0 m1 m2 n0 n1 n2
    go_wp2_with fail
    refine (HPl.out _ HB4.out HM4.out HM4'.out).mono ?_
    rintro e w5 ⟨hb5, i, hF, hans⟩
    have hsz5 : w.heap.size + 1 + 1 < w5.heap.size := by have := hb5.size; omega
    have z0 := (hb5.cell (cell_lt z0)).trans z0
    have z1 := (hb5.cell (cell_lt z1)).trans z1
    have z2 := (hb5.cell (cell_lt z2)).trans z2
    have y0 := (hb5.frozen (p := ⟨w.heap.size + 1 + 1, 0, none⟩) hsz4).trans y0
    have y1 := (hb5.frozen (p := ⟨w.heap.size + 1 + 1, 1, none⟩) hsz4).trans y1
    have y2 := (hb5.frozen (p := ⟨w.heap.size + 1 + 1, 2, none⟩) hsz4).trans y2
    have HB5 := hid (HB4.out.trans (hb5.mono HB4.out.size))
    have HF := hid hF
    clear hb5 hF HPl HM4 HM4'
    rcases hans with ⟨h64, rfl⟩ | ⟨h64, Na5, nc5, Aa5, ac5, rfl, hM⟩
    · unfold machV
      go_wp2
      have t0 : (((w5.setCell ⟨w.heap.size + 1 + 1, 0, none⟩ (.int .i64 0)).setCell ⟨w.heap.size + 1 + 1, 1, none⟩ (.slice none 0 0)).setCell ⟨w.heap.size + 1 + 1, 2, none⟩ (.slice none 0 0)).cell? ⟨w.heap.size + 1 + 1, 0, none⟩ = some (.int .i64 0) := by go_simp
      have t1 : (((w5.setCell ⟨w.heap.size + 1 + 1, 0, none⟩ (.int .i64 0)).setCell ⟨w.heap.size + 1 + 1, 1, none⟩ (.slice none 0 0)).setCell ⟨w.heap.size + 1 + 1, 2, none⟩ (.slice none 0 0)).cell? ⟨w.heap.size + 1 + 1, 1, none⟩ = some (.slice none 0 0) := by go_simp
      have t2 : (((w5.setCell ⟨w.heap.size + 1 + 1, 0, none⟩ (.int .i64 0)).setCell ⟨w.heap.size + 1 + 1, 1, none⟩ (.slice none 0 0)).setCell ⟨w.heap.size + 1 + 1, 2, none⟩ (.slice none 0 0)).cell? ⟨w.heap.size + 1 + 1, 2, none⟩ = some (.slice none 0 0) := by go_simp
      have HBz := hid (((HB5.out.setCell (p := ⟨w.heap.size + 1 + 1, 0, none⟩) (by simp; omega) (.int .i64 0)).setCell (p := ⟨w.heap.size + 1 + 1, 1, none⟩) (by simp; omega) (.slice none 0 0)).setCell (p := ⟨w.heap.size + 1 + 1, 2, none⟩) (by simp; omega) (.slice none 0 0))
      generalize (((w5.setCell ⟨w.heap.size + 1 + 1, 0, none⟩ (.int .i64 0)).setCell ⟨w.heap.size + 1 + 1, 1, none⟩ (.slice none 0 0)).setCell ⟨w.heap.size + 1 + 1, 2, none⟩ (.slice none 0 0)) = wz at *
      refine bodyPost_ret (v := .tuple #[machV 0 none 0 0 none 0 0, .int .i64 4]) (by simp [machV, results, Try.results36, go_sem, t0, t1, t2]) rfl ⟨HBz.out, .inr ⟨HVz.out, by rw [Int.toNat_natCast]; exact ⟨i, HF.out, .inl ⟨h64, rfl⟩⟩⟩⟩
    · unfold machV
      have HM := hid hM
      clear hM
      go_wp2
      have t0 : (((w5.setCell ⟨w.heap.size + 1 + 1, 0, none⟩ (.int .i64 (n : Int))).setCell ⟨w.heap.size + 1 + 1, 1, none⟩ (.slice Na5 i nc5)).setCell ⟨w.heap.size + 1 + 1, 2, none⟩ (.slice Aa5 i ac5)).cell? ⟨w.heap.size + 1 + 1, 0, none⟩ = some (.int .i64 (n : Int)) := by go_simp
      have t1 : (((w5.setCell ⟨w.heap.size + 1 + 1, 0, none⟩ (.int .i64 (n : Int))).setCell ⟨w.heap.size + 1 + 1, 1, none⟩ (.slice Na5 i nc5)).setCell ⟨w.heap.size + 1 + 1, 2, none⟩ (.slice Aa5 i ac5)).cell? ⟨w.heap.size + 1 + 1, 1, none⟩ = some (.slice Na5 i nc5) := by go_simp
      have t2 : (((w5.setCell ⟨w.heap.size + 1 + 1, 0, none⟩ (.int .i64 (n : Int))).setCell ⟨w.heap.size + 1 + 1, 1, none⟩ (.slice Na5 i nc5)).setCell ⟨w.heap.size + 1 + 1, 2, none⟩ (.slice Aa5 i ac5)).cell? ⟨w.heap.size + 1 + 1, 2, none⟩ = some (.slice Aa5 i ac5) := by go_simp
      have HBz := hid (((HB5.out.setCell (p := ⟨w.heap.size + 1 + 1, 0, none⟩) (by simp; omega) (.int .i64 (n : Int))).setCell (p := ⟨w.heap.size + 1 + 1, 1, none⟩) (by simp; omega) (.slice Na5 i nc5)).setCell (p := ⟨w.heap.size + 1 + 1, 2, none⟩) (by simp; omega) (.slice Aa5 i ac5))
      have HMz := hid ((((HM.out.setCell ⟨w.heap.size + 1 + 1, 0, none⟩ (.int .i64 (n : Int)) (by simp; omega)).setCell ⟨w.heap.size + 1 + 1, 1, none⟩ (.slice Na5 i nc5) (by simp; omega)).setCell ⟨w.heap.size + 1 + 1, 2, none⟩ (.slice Aa5 i ac5) (by simp; omega)).weak (B' := w.heap.size) (by omega))
      generalize (((w5.setCell ⟨w.heap.size + 1 + 1, 0, none⟩ (.int .i64 (n : Int))).setCell ⟨w.heap.size + 1 + 1, 1, none⟩ (.slice Na5 i nc5)).setCell ⟨w.heap.size + 1 + 1, 2, none⟩ (.slice Aa5 i ac5)) = wz at *
      refine bodyPost_ret (v := .tuple #[machV n Na5 i nc5 Aa5 i ac5, .int .i64 0]) (by simp [machV, results, Try.results36, go_sem, t0, t1, t2]) rfl ⟨HBz.out, .inr ⟨HVz.out, by rw [Int.toNat_natCast]; exact ⟨i, HF.out, .inr ⟨h64, Na5, nc5, Aa5, ac5, rfl, HMz.out⟩⟩⟩⟩
  · have hv1 : (twoE L rows accs L' rows' accs' != 0) = true := by simpa using hv
    have HV := hid hv
    clear hv
    generalize hvv : twoE L rows accs L' rows' accs' = v at *
    have HVV := hid hvv
    clear hvv m0 m1 m2 n0 n1 n2
    go_wp2
    have t0 : (((w1.setCell ⟨w.heap.size + 1 + 1, 0, none⟩ (.int .i64 0)).setCell ⟨w.heap.size + 1 + 1, 1, none⟩ (.slice none 0 0)).setCell ⟨w.heap.size + 1 + 1, 2, none⟩ (.slice none 0 0)).cell? ⟨w.heap.size + 1 + 1, 0, none⟩ = some (.int .i64 0) := by go_simp
    have t1 : (((w1.setCell ⟨w.heap.size + 1 + 1, 0, none⟩ (.int .i64 0)).setCell ⟨w.heap.size + 1 + 1, 1, none⟩ (.slice none 0 0)).setCell ⟨w.heap.size + 1 + 1, 2, none⟩ (.slice none 0 0)).cell? ⟨w.heap.size + 1 + 1, 1, none⟩ = some (.slice none 0 0) := by go_simp
    have t2 : (((w1.setCell ⟨w.heap.size + 1 + 1, 0, none⟩ (.int .i64 0)).setCell ⟨w.heap.size + 1 + 1, 1, none⟩ (.slice none 0 0)).setCell ⟨w.heap.size + 1 + 1, 2, none⟩ (.slice none 0 0)).cell? ⟨w.heap.size + 1 + 1, 2, none⟩ = some (.slice none 0 0) := by go_simp
    have HBz := hid (((HB2.out.setCell (p := ⟨w.heap.size + 1 + 1, 0, none⟩) (by simp; omega) (.int .i64 0)).setCell (p := ⟨w.heap.size + 1 + 1, 1, none⟩) (by simp; omega) (.slice none 0 0)).setCell (p := ⟨w.heap.size + 1 + 1, 2, none⟩) (by simp; omega) (.slice none 0 0))
    generalize (((w1.setCell ⟨w.heap.size + 1 + 1, 0, none⟩ (.int .i64 0)).setCell ⟨w.heap.size + 1 + 1, 1, none⟩ (.slice none 0 0)).setCell ⟨w.heap.size + 1 + 1, 2, none⟩ (.slice none 0 0)) = wz at *
    refine bodyPost_ret (v := .tuple #[machV 0 none 0 0 none 0 0, .int .i64 v]) (by simp [machV, results, Try.results36, go_sem, t0, t1, t2]) rfl ⟨HBz.out, .inl ⟨by rw [HVV.out]; exact HV.out, by rw [HVV.out]⟩⟩
end Go.Proofs.Ytkboeldafppicaa
