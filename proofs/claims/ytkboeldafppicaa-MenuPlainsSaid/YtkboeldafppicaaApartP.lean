/- Apart of package menu: its contract. -/
import Derived.Test.YtkboeldafppicaaApart
import Derived.Test.YtkboeldafppicaaMChk
set_option linter.unusedVariables false
set_option linter.unusedSimpArgs false
namespace Go.Proofs.Ytkboeldafppicaa
open Go.RowKit Go.Maps

theorem egAp : (∀ args (w : World), (callFunc 92 args).run Try.prog w = .ok (.enter 92 args) w) ∧ (∀ args (w : World), (callFunc 93 args).run Try.prog w = .ok (.enter 93 args) w) := ⟨fun _ _ => by kernel_rfl, fun _ _ => by kernel_rfl⟩
/-- The language of Apart. -/
noncomputable def apL (n : Nat) (d : Int) : Lang := langOf n (apN d) apK (-1, -1, false)
def apOk (n d : Int) : Prop := 1 ≤ n ∧ n ≤ 6 ∧ 0 ≤ d ∧ d ≤ 3
instance (n d : Int) : Decidable (apOk n d) := by unfold apOk; infer_instance
theorem plainAns_grow {w w' : World} {B B' L : Nat} {f : Lang} {e : Ending} (h : PlainAns w B L f e) (hb : B' ≤ B) (hs : ∀ k, B ≤ k → k < w.heap.size → w'.heap[k]? = w.heap[k]?) (hz : w.heap.size ≤ w'.heap.size) : PlainAns w' B' L f e := by
  obtain ⟨i, h1, h2⟩ := h
  refine ⟨i, h1, ?_⟩
  rcases h2 with h2 | ⟨h3, Na, nc, Aa, ac, h4, h5⟩
  · exact .inl h2
  · exact .inr ⟨h3, Na, nc, Aa, ac, h4, (h5.same hs hz).weak hb⟩
set_option maxRecDepth 100000 in
set_option maxHeartbeats 4000000 in
theorem apart_any (n d : Int) (w : World) : Calls Try.prog 40 #[.int .i64 n, .int .i64 d] w fun e w' => Below w.heap.size w w' ∧ ((apOk n d ∧ PlainAns w' w.heap.size n.toNat (apL n.toNat d) e) ∨ (¬ apOk n d ∧ e = .returned (.tuple #[machV 0 none 0 0 none 0 0, .int .i64 1]))) := by
  have HA := hid (show Below w.heap.size w ((w.alloc (.cells #[.int .i64 d] 3)).alloc (.cells #[.int .i64 0, .slice none 0 0, .slice none 0 0] 25)) from ((Below.refl _ _).alloc (Nat.le_refl _) _).alloc (by simp) _)
  have c0 : ((w.alloc (.cells #[.int .i64 d] 3)).alloc (.cells #[.int .i64 0, .slice none 0 0, .slice none 0 0] 25)).cell? ⟨w.heap.size, 0, none⟩ = some (.int .i64 d) := by go_simp
  have HP := hid (fun (h : apOk n d) => plainR_any n.toNat (by unfold apOk at h; omega) (by unfold apOk at h; omega) (-1, -1, false) (apN d) apK (ApP n.toNat) 98 92 93 #[] #[.pointer (some ⟨w.heap.size, 0, none⟩)] #[] #[] ((w.alloc (.cells #[.int .i64 d] 3)).alloc (.cells #[.int .i64 0, .slice none 0 0, .slice none 0 0] 25))
    (by unfold ApP apOk at *; simp; omega) (fun s c hs hc => apP_next n.toNat (by unfold apOk at h; omega) d s c hs hc) (fun s hs => by unfold ApP at hs; unfold apOk at h; unfold I64; omega) (fun l hn hl => apP_bound n.toNat (by unfold apOk at h; omega) l hn hl) (by omega) egAp.1 egAp.2
    (fun w' s c hb hs hc => by
      have := apNext_any s c w.heap.size d w' ((hb.cell (cell_lt c0)).trans c0)
      simpa using this)
    (fun w' s hb hs => by
      have := apKeep_any s w'
      simpa using this))
  have HZ := hid (fun wx (hb : Below ((w.alloc (.cells #[.int .i64 d] 3)).alloc (.cells #[.int .i64 0, .slice none 0 0, .slice none 0 0] 25)).heap.size ((w.alloc (.cells #[.int .i64 d] 3)).alloc (.cells #[.int .i64 0, .slice none 0 0, .slice none 0 0] 25)) wx) => show wx.cell? ⟨w.heap.size + 1, 0, none⟩ = some (.int .i64 0) ∧ wx.cell? ⟨w.heap.size + 1, 1, none⟩ = some (.slice none 0 0) ∧ wx.cell? ⟨w.heap.size + 1, 2, none⟩ = some (.slice none 0 0) ∧ wx.frozen? ⟨w.heap.size + 1, 0, none⟩ = false ∧ wx.frozen? ⟨w.heap.size + 1, 1, none⟩ = false ∧ wx.frozen? ⟨w.heap.size + 1, 2, none⟩ = false from
    ⟨by rw [hb.cell (by simp)]; go_simp, by rw [hb.cell (by simp)]; go_simp, by rw [hb.cell (by simp)]; go_simp, by rw [hb.frozen (by simp)]; go_simp, by rw [hb.frozen (by simp)]; go_simp, by rw [hb.frozen (by simp)]; go_simp⟩)
  clear c0
  go_enter Try.func40, Try.ntmps40
  go_wp2_with fail
  refine (mIsLetters_any n _).mono ?_
  rintro e w1 ⟨rfl, rfl⟩
  by_cases h1 : (1 ≤ n ∧ n ≤ 6)
  · have hd : decide (1 ≤ n ∧ n ≤ 6) = true := by simpa using h1
    rw [hd]
    clear hd
    by_cases h2 : d < 0
    · have hno : ¬ apOk n d := by unfold apOk; omega
      have HNo := hid hno
      clear hno
      go_wp2
      refine bodyPost_ret (v := .tuple #[machV 0 none 0 0 none 0 0, .int .i64 1]) (by simp [machV, results, Try.results40, go_sem]) rfl ⟨HA.out, .inr ⟨HNo.out, rfl⟩⟩
    · by_cases h3 : 3 < d
      · have hno : ¬ apOk n d := by unfold apOk; omega
        have HNo := hid hno
        clear hno
        go_wp2
        refine bodyPost_ret (v := .tuple #[machV 0 none 0 0 none 0 0, .int .i64 1]) (by simp [machV, results, Try.results40, go_sem]) rfl ⟨HA.out, .inr ⟨HNo.out, rfl⟩⟩
      · have hok : apOk n d := by unfold apOk; omega
        have HOk := hid hok
        have HP := hid (HP.out hok)
        clear hok
        have hnn : ((n.toNat : Nat) : Int) = n := by omega
        rw [hnn] at HP
        go_wp2_with fail
        refine HP.out.mono ?_
        rintro e w5 ⟨hb5, i, hF, hans⟩
        obtain ⟨z0, z1, z2, y0, y1, y2⟩ := HZ.out w5 hb5
        have HB5 := hid (HA.out.trans (hb5.mono HA.out.size))
        have hsz : w.heap.size + 1 < w5.heap.size := cell_lt z0
        have HF := hid hF
        clear hb5 HZ HP hF
        rcases hans with ⟨h64, rfl⟩ | ⟨h64, Na, nc, Aa, ac, rfl, hM⟩
        · unfold machV
          go_wp2
          have t0 : (((w5.setCell ⟨w.heap.size + 1, 0, none⟩ (.int .i64 0)).setCell ⟨w.heap.size + 1, 1, none⟩ (.slice none 0 0)).setCell ⟨w.heap.size + 1, 2, none⟩ (.slice none 0 0)).cell? ⟨w.heap.size + 1, 0, none⟩ = some (.int .i64 0) := by go_simp
          have t1 : (((w5.setCell ⟨w.heap.size + 1, 0, none⟩ (.int .i64 0)).setCell ⟨w.heap.size + 1, 1, none⟩ (.slice none 0 0)).setCell ⟨w.heap.size + 1, 2, none⟩ (.slice none 0 0)).cell? ⟨w.heap.size + 1, 1, none⟩ = some (.slice none 0 0) := by go_simp
          have t2 : (((w5.setCell ⟨w.heap.size + 1, 0, none⟩ (.int .i64 0)).setCell ⟨w.heap.size + 1, 1, none⟩ (.slice none 0 0)).setCell ⟨w.heap.size + 1, 2, none⟩ (.slice none 0 0)).cell? ⟨w.heap.size + 1, 2, none⟩ = some (.slice none 0 0) := by go_simp
          have HBz := hid (((HB5.out.setCell (p := ⟨w.heap.size + 1, 0, none⟩) (by simp) (.int .i64 0)).setCell (p := ⟨w.heap.size + 1, 1, none⟩) (by simp) (.slice none 0 0)).setCell (p := ⟨w.heap.size + 1, 2, none⟩) (by simp) (.slice none 0 0))
          generalize (((w5.setCell ⟨w.heap.size + 1, 0, none⟩ (.int .i64 0)).setCell ⟨w.heap.size + 1, 1, none⟩ (.slice none 0 0)).setCell ⟨w.heap.size + 1, 2, none⟩ (.slice none 0 0)) = wz at *
          refine bodyPost_ret (v := .tuple #[machV 0 none 0 0 none 0 0, .int .i64 4]) (by simp [machV, results, Try.results40, go_sem, t0, t1, t2]) rfl ⟨HBz.out, .inl ⟨HOk.out, i, HF.out, .inl ⟨h64, rfl⟩⟩⟩

        · unfold machV
          rw [hnn]
          have HM := hid hM
          clear hM
          go_wp2
          have t0 : (((w5.setCell ⟨w.heap.size + 1, 0, none⟩ (.int .i64 n)).setCell ⟨w.heap.size + 1, 1, none⟩ (.slice Na i nc)).setCell ⟨w.heap.size + 1, 2, none⟩ (.slice Aa i ac)).cell? ⟨w.heap.size + 1, 0, none⟩ = some (.int .i64 n) := by go_simp
          have t1 : (((w5.setCell ⟨w.heap.size + 1, 0, none⟩ (.int .i64 n)).setCell ⟨w.heap.size + 1, 1, none⟩ (.slice Na i nc)).setCell ⟨w.heap.size + 1, 2, none⟩ (.slice Aa i ac)).cell? ⟨w.heap.size + 1, 1, none⟩ = some (.slice Na i nc) := by go_simp
          have t2 : (((w5.setCell ⟨w.heap.size + 1, 0, none⟩ (.int .i64 n)).setCell ⟨w.heap.size + 1, 1, none⟩ (.slice Na i nc)).setCell ⟨w.heap.size + 1, 2, none⟩ (.slice Aa i ac)).cell? ⟨w.heap.size + 1, 2, none⟩ = some (.slice Aa i ac) := by go_simp
          have HBz := hid (((HB5.out.setCell (p := ⟨w.heap.size + 1, 0, none⟩) (by simp) (.int .i64 n)).setCell (p := ⟨w.heap.size + 1, 1, none⟩) (by simp) (.slice Na i nc)).setCell (p := ⟨w.heap.size + 1, 2, none⟩) (by simp) (.slice Aa i ac))
          have HMz := hid ((((HM.out.setCell ⟨w.heap.size + 1, 0, none⟩ (.int .i64 n) (by simp)).setCell ⟨w.heap.size + 1, 1, none⟩ (.slice Na i nc) (by simp)).setCell ⟨w.heap.size + 1, 2, none⟩ (.slice Aa i ac) (by simp)).weak (B' := w.heap.size) (by simp; omega))
          generalize (((w5.setCell ⟨w.heap.size + 1, 0, none⟩ (.int .i64 n)).setCell ⟨w.heap.size + 1, 1, none⟩ (.slice Na i nc)).setCell ⟨w.heap.size + 1, 2, none⟩ (.slice Aa i ac)) = wz at *
          refine bodyPost_ret (v := .tuple #[machV n Na i nc Aa i ac, .int .i64 0]) (by simp [machV, results, Try.results40, go_sem, t0, t1, t2]) rfl ⟨HBz.out, .inl ⟨HOk.out, i, HF.out, .inr ⟨h64, Na, nc, Aa, ac, by rw [hnn], HMz.out⟩⟩⟩

  · have hd : decide (1 ≤ n ∧ n ≤ 6) = false := by simpa using h1
    rw [hd]
    clear hd
    have hno : ¬ apOk n d := by unfold apOk; omega
    have HNo := hid hno
    clear hno
    go_wp2
    refine bodyPost_ret (v := .tuple #[machV 0 none 0 0 none 0 0, .int .i64 1]) (by simp [machV, results, Try.results40, go_sem]) rfl ⟨HA.out, .inr ⟨HNo.out, rfl⟩⟩
end Go.Proofs.Ytkboeldafppicaa
