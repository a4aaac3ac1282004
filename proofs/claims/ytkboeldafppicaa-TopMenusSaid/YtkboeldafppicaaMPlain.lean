/- Plain of the program. -/
import Derived.Test.YtkboeldafppicaaRPlainP
import Derived.Test.YtkboeldafppicaaPlainI
import Derived.Test.YtkboeldafppicaaMAcc
set_option linter.unusedVariables false
set_option linter.unusedSimpArgs false
namespace Go.Proofs.Ytkboeldafppicaa
open Go.RowKit Go.Maps

/-- The machine's own step, over whole numbers. -/
def n1 (rows : List (List Int)) (s : Int) (c : Nat) : Int := (mN rows s.toNat c : Int)
def InM (rows : List (List Int)) (s : Int) : Prop := ∃ j : Nat, s = j ∧ j < rows.length
theorem inM_bound {rows : List (List Int)} : ∀ l : List Int, l.Nodup → (∀ s ∈ l, InM rows s) → l.length ≤ rows.length := by
  intro l hn h
  refine coded_bound Int.toNat rows.length l hn (fun x hx => ?_) (fun x hx y hy e => ?_)
  · obtain ⟨j, rfl, hj⟩ := h x hx; simpa using hj
  · obtain ⟨j, rfl, hj⟩ := h x hx
    obtain ⟨j', rfl, hj'⟩ := h y hy
    simp at e; rw [e]
theorem n1_lang (L : Nat) (rows : List (List Int)) (accs : List Bool) (hcl : ∀ s c, s < rows.length → c < L → mN rows s c < rows.length) (h0 : 0 < rows.length) : langOf L (n1 rows) (a2 accs) 0 = mLang L rows accs 0 :=
  langOf_rel (R := fun s t => s = ((t : Nat) : Int) ∧ t < rows.length) L _ _ _ _ (fun s t c h hc => by
    obtain ⟨rfl, ht⟩ := h
    exact ⟨by unfold n1; rw [Int.toNat_natCast], hcl t c ht hc⟩) (fun s t h => by
    obtain ⟨rfl, ht⟩ := h
    unfold a2; rw [Int.toNat_natCast]) _ _ ⟨rfl, h0⟩
theorem egM : (∀ args (w : World), (callFunc 71 args).run Try.prog w = .ok (.enter 71 args) w) ∧ (∀ args (w : World), (callFunc 72 args).run Try.prog w = .ok (.enter 72 args) w) := ⟨fun _ _ => by kernel_rfl, fun _ _ => by kernel_rfl⟩

set_option maxRecDepth 100000 in
set_option maxHeartbeats 1000000 in
theorem mPlain_any (L : Int) (nc ac : Nat) (Na Aa : Option Addr) (rows : List (List Int)) (accs : List Bool) (w : World) (h : MachAt w Na rows Aa accs) :
    Calls Try.prog 26 #[machV L Na rows.length nc Aa accs.length ac] w fun e w' => Below w.heap.size w w' ∧ PlA w' w.heap.size L rows accs e := by
  have hB1 : Below w.heap.size w ((w.alloc (.cells #[.int .i64 L, .slice Na rows.length nc, .slice Aa accs.length ac] 25)).alloc (.cells #[.int .i64 0, .slice none 0 0, .slice none 0 0] 25)) := ((Below.refl _ _).alloc (Nat.le_refl _) _).alloc (by simp) _
  have HM1 := hid (h.below hB1)
  have HV := hid (mValidate_any L nc ac Na Aa rows accs _ HM1.out)
  have HB1 := hid hB1
  clear h hB1
  unfold machV at HV ⊢
  go_enter Try.func26, Try.ntmps26
  go_wp2_with fail
  refine HV.out.mono ?_
  rintro e w1 ⟨hw1, rfl⟩
  have hb1 : Below ((w.alloc (.cells #[.int .i64 L, .slice Na rows.length nc, .slice Aa accs.length ac] 25)).alloc (.cells #[.int .i64 0, .slice none 0 0, .slice none 0 0] 25)).heap.size ((w.alloc (.cells #[.int .i64 L, .slice Na rows.length nc, .slice Aa accs.length ac] 25)).alloc (.cells #[.int .i64 0, .slice none 0 0, .slice none 0 0] 25)) w1 := by rw [hw1]; exact (Below.refl _ _).alloc (Nat.le_refl _) _
  clear hw1
  have z0 : w1.cell? ⟨w.heap.size + 1, 0, none⟩ = some (.int .i64 0) := by rw [hb1.cell (by simp)]; go_simp
  have z1 : w1.cell? ⟨w.heap.size + 1, 1, none⟩ = some (.slice none 0 0) := by rw [hb1.cell (by simp)]; go_simp
  have z2 : w1.cell? ⟨w.heap.size + 1, 2, none⟩ = some (.slice none 0 0) := by rw [hb1.cell (by simp)]; go_simp
  have y0 : w1.frozen? ⟨w.heap.size + 1, 0, none⟩ = false := by rw [hb1.frozen (by simp)]; go_simp
  have y1 : w1.frozen? ⟨w.heap.size + 1, 1, none⟩ = false := by rw [hb1.frozen (by simp)]; go_simp
  have y2 : w1.frozen? ⟨w.heap.size + 1, 2, none⟩ = false := by rw [hb1.frozen (by simp)]; go_simp
  have m0 : w1.cell? ⟨w.heap.size, 0, none⟩ = some (.int .i64 L) := by rw [hb1.cell (by simp; omega)]; go_simp
  have m1 : w1.cell? ⟨w.heap.size, 1, none⟩ = some (.slice Na rows.length nc) := by rw [hb1.cell (by simp; omega)]; go_simp
  have m2 : w1.cell? ⟨w.heap.size, 2, none⟩ = some (.slice Aa accs.length ac) := by rw [hb1.cell (by simp; omega)]; go_simp
  have hsz : w.heap.size + 1 < w1.heap.size := cell_lt z0
  have HB2 := hid (HB1.out.trans (hb1.mono HB1.out.size))
  have HM2 := hid (HM1.out.below hb1)
  clear hb1 HM1 HV HB1
  by_cases hv : vE L rows accs = 0
  · obtain ⟨n, rfl⟩ := vE_nat hv
    obtain ⟨hg, hn64⟩ := vE_ok hv
    have HG := hid hg
    have HV := hid hv
    have hal := hg.acc
    rw [hal] at m2
    rw [hal, hv]
    clear hg hv
    have HP := hid (plainI_any n HG.out.hi HG.out.lo 0 (n1 rows) (a2 accs) (InM rows) rows.length 71 72 #[.agg #[.int .i64 (n : Int), .slice Na rows.length nc, .slice Aa rows.length ac]] #[] #[.agg #[.int .i64 (n : Int), .slice Na rows.length nc, .slice Aa rows.length ac]] #[] w1 ⟨0, rfl, HG.out.pos⟩ (fun s c h hc => by
      obtain ⟨j, rfl, hj⟩ := h
      exact ⟨mN rows j c, by unfold n1; rw [Int.toNat_natCast], HG.out.cl j c hj hc⟩) (fun s h => by obtain ⟨j, rfl, hj⟩ := h; unfold I64; omega) inM_bound (by omega) egM.1 egM.2 (fun w' s c hb h hc => by
      obtain ⟨j, rfl, hj⟩ := h
      exact (next_any n j c nc ac rows.length Na Aa rows accs w' (HM2.out.below hb) hj (by rw [HG.out.row j hj]; exact hc)).mono (by rintro e w'' ⟨rfl, rfl⟩; exact ⟨(Below.refl _ _).alloc (Nat.le_refl _) _, by rw [(HG.out.ent j c hj hc).2]; unfold VI n1; rw [Int.toNat_natCast]⟩)) (fun w' s hb h => by
      obtain ⟨j, rfl, hj⟩ := h
      exact (accepts_any n j nc ac rows.length rows.length Na Aa rows accs w' (HM2.out.below hb) (by rw [HG.out.acc]; exact hj) HG.out.acc.symm).mono (by rintro e w'' ⟨rfl, rfl⟩; exact ⟨(Below.refl _ _).alloc (Nat.le_refl _) _, rfl⟩)))
    rw [n1_lang n rows accs HG.out.cl HG.out.pos] at HP
    go_wp2_with fail
    refine HP.out.mono ?_
    rintro e w5 ⟨hb5, i, hF, hans⟩
    clear HP
    have hsz5 : w.heap.size + 1 < w5.heap.size := by have := hb5.size; omega
    have z0 := (hb5.cell (cell_lt z0)).trans z0
    have z1 := (hb5.cell (cell_lt z1)).trans z1
    have z2 := (hb5.cell (cell_lt z2)).trans z2
    have HB5 := hid (HB2.out.trans (hb5.mono HB2.out.size))
    have HF := hid hF
    have yy : ∀ o, w5.frozen? ⟨w.heap.size + 1, o, none⟩ = w1.frozen? ⟨w.heap.size + 1, o, none⟩ := fun o => hb5.frozen hsz
    have y0 := (yy 0).trans y0
    have y1 := (yy 1).trans y1
    have y2 := (yy 2).trans y2
    clear hb5 hF HM2 yy m0 m1 m2
    rcases hans with ⟨h64, rfl⟩ | ⟨h64, Na5, nc5, Aa5, ac5, rfl, hM⟩
    · unfold machV
      go_wp2
      have t0 : (((w5.setCell ⟨w.heap.size + 1, 0, none⟩ (.int .i64 0)).setCell ⟨w.heap.size + 1, 1, none⟩ (.slice none 0 0)).setCell ⟨w.heap.size + 1, 2, none⟩ (.slice none 0 0)).cell? ⟨w.heap.size + 1, 0, none⟩ = some (.int .i64 0) := by go_simp
      have t1 : (((w5.setCell ⟨w.heap.size + 1, 0, none⟩ (.int .i64 0)).setCell ⟨w.heap.size + 1, 1, none⟩ (.slice none 0 0)).setCell ⟨w.heap.size + 1, 2, none⟩ (.slice none 0 0)).cell? ⟨w.heap.size + 1, 1, none⟩ = some (.slice none 0 0) := by go_simp
      have t2 : (((w5.setCell ⟨w.heap.size + 1, 0, none⟩ (.int .i64 0)).setCell ⟨w.heap.size + 1, 1, none⟩ (.slice none 0 0)).setCell ⟨w.heap.size + 1, 2, none⟩ (.slice none 0 0)).cell? ⟨w.heap.size + 1, 2, none⟩ = some (.slice none 0 0) := by go_simp
      have HBz := hid (((HB5.out.setCell (p := ⟨w.heap.size + 1, 0, none⟩) (by simp) (.int .i64 0)).setCell (p := ⟨w.heap.size + 1, 1, none⟩) (by simp) (.slice none 0 0)).setCell (p := ⟨w.heap.size + 1, 2, none⟩) (by simp) (.slice none 0 0))
      generalize (((w5.setCell ⟨w.heap.size + 1, 0, none⟩ (.int .i64 0)).setCell ⟨w.heap.size + 1, 1, none⟩ (.slice none 0 0)).setCell ⟨w.heap.size + 1, 2, none⟩ (.slice none 0 0)) = wz at *
      refine bodyPost_ret (v := .tuple #[machV 0 none 0 0 none 0 0, .int .i64 4]) (by simp [machV, results, Try.results26, go_sem, t0, t1, t2]) rfl ⟨HBz.out, .inr ⟨HV.out, by rw [Int.toNat_natCast]; exact ⟨i, HF.out, .inl ⟨h64, rfl⟩⟩⟩⟩
    · unfold machV
      have HM := hid hM
      clear hM
      go_wp2
      have t0 : (((w5.setCell ⟨w.heap.size + 1, 0, none⟩ (.int .i64 (n : Int))).setCell ⟨w.heap.size + 1, 1, none⟩ (.slice Na5 i nc5)).setCell ⟨w.heap.size + 1, 2, none⟩ (.slice Aa5 i ac5)).cell? ⟨w.heap.size + 1, 0, none⟩ = some (.int .i64 (n : Int)) := by go_simp
      have t1 : (((w5.setCell ⟨w.heap.size + 1, 0, none⟩ (.int .i64 (n : Int))).setCell ⟨w.heap.size + 1, 1, none⟩ (.slice Na5 i nc5)).setCell ⟨w.heap.size + 1, 2, none⟩ (.slice Aa5 i ac5)).cell? ⟨w.heap.size + 1, 1, none⟩ = some (.slice Na5 i nc5) := by go_simp
      have t2 : (((w5.setCell ⟨w.heap.size + 1, 0, none⟩ (.int .i64 (n : Int))).setCell ⟨w.heap.size + 1, 1, none⟩ (.slice Na5 i nc5)).setCell ⟨w.heap.size + 1, 2, none⟩ (.slice Aa5 i ac5)).cell? ⟨w.heap.size + 1, 2, none⟩ = some (.slice Aa5 i ac5) := by go_simp
      have HBz := hid (((HB5.out.setCell (p := ⟨w.heap.size + 1, 0, none⟩) (by simp) (.int .i64 (n : Int))).setCell (p := ⟨w.heap.size + 1, 1, none⟩) (by simp) (.slice Na5 i nc5)).setCell (p := ⟨w.heap.size + 1, 2, none⟩) (by simp) (.slice Aa5 i ac5))
      have HMz := hid ((((HM.out.setCell ⟨w.heap.size + 1, 0, none⟩ (.int .i64 (n : Int)) (by simp; omega)).setCell ⟨w.heap.size + 1, 1, none⟩ (.slice Na5 i nc5) (by simp; omega)).setCell ⟨w.heap.size + 1, 2, none⟩ (.slice Aa5 i ac5) (by simp; omega)).weak (B' := w.heap.size) (by omega))
      generalize (((w5.setCell ⟨w.heap.size + 1, 0, none⟩ (.int .i64 (n : Int))).setCell ⟨w.heap.size + 1, 1, none⟩ (.slice Na5 i nc5)).setCell ⟨w.heap.size + 1, 2, none⟩ (.slice Aa5 i ac5)) = wz at *
      refine bodyPost_ret (v := .tuple #[machV n Na5 i nc5 Aa5 i ac5, .int .i64 0]) (by simp [machV, results, Try.results26, go_sem, t0, t1, t2]) rfl ⟨HBz.out, .inr ⟨HV.out, by rw [Int.toNat_natCast]; exact ⟨i, HF.out, .inr ⟨h64, Na5, nc5, Aa5, ac5, rfl, HMz.out⟩⟩⟩⟩
  · have hv1 : (vE L rows accs != 0) = true := by simpa using hv
    have HV := hid hv
    clear hv
    generalize hvv : vE L rows accs = v at *
    have HVV := hid hvv
    clear hvv m0 m1 m2
    go_wp2
    have t0 : (((w1.setCell ⟨w.heap.size + 1, 0, none⟩ (.int .i64 0)).setCell ⟨w.heap.size + 1, 1, none⟩ (.slice none 0 0)).setCell ⟨w.heap.size + 1, 2, none⟩ (.slice none 0 0)).cell? ⟨w.heap.size + 1, 0, none⟩ = some (.int .i64 0) := by go_simp
    have t1 : (((w1.setCell ⟨w.heap.size + 1, 0, none⟩ (.int .i64 0)).setCell ⟨w.heap.size + 1, 1, none⟩ (.slice none 0 0)).setCell ⟨w.heap.size + 1, 2, none⟩ (.slice none 0 0)).cell? ⟨w.heap.size + 1, 1, none⟩ = some (.slice none 0 0) := by go_simp
    have t2 : (((w1.setCell ⟨w.heap.size + 1, 0, none⟩ (.int .i64 0)).setCell ⟨w.heap.size + 1, 1, none⟩ (.slice none 0 0)).setCell ⟨w.heap.size + 1, 2, none⟩ (.slice none 0 0)).cell? ⟨w.heap.size + 1, 2, none⟩ = some (.slice none 0 0) := by go_simp
    have HBz := hid (((HB2.out.setCell (p := ⟨w.heap.size + 1, 0, none⟩) (by simp) (.int .i64 0)).setCell (p := ⟨w.heap.size + 1, 1, none⟩) (by simp) (.slice none 0 0)).setCell (p := ⟨w.heap.size + 1, 2, none⟩) (by simp) (.slice none 0 0))
    generalize (((w1.setCell ⟨w.heap.size + 1, 0, none⟩ (.int .i64 0)).setCell ⟨w.heap.size + 1, 1, none⟩ (.slice none 0 0)).setCell ⟨w.heap.size + 1, 2, none⟩ (.slice none 0 0)) = wz at *
    refine bodyPost_ret (v := .tuple #[machV 0 none 0 0 none 0 0, .int .i64 v]) (by simp [machV, results, Try.results26, go_sem, t0, t1, t2]) rfl ⟨HBz.out, .inl ⟨by rw [HVV.out]; exact HV.out, by rw [HVV.out]⟩⟩
end Go.Proofs.Ytkboeldafppicaa
