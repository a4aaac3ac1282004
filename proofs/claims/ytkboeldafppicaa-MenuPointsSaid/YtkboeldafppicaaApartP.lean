/- Apart of package menu: its contract. -/
import Derived.Test.YtkboeldafppicaaPlainR
import Derived.Test.YtkboeldafppicaaMAcc
/- Apart of package menu. -/
set_option linter.unusedVariables false
set_option linter.unusedSimpArgs false
namespace Go.Proofs.Ytkboeldafppicaa
open Go.RowKit Go.Maps

/-- What Apart's rule remembers behind a letter. -/
def apN (d : Int) (s : Rec) (c : Nat) : Rec := if s.2.2 = true ∨ (2 ≤ d ∧ (c : Int) = s.1) ∨ (3 ≤ d ∧ (c : Int) = s.2.1) then (0, 0, true) else ((c : Int), s.1, false)
def apK (s : Rec) : Bool := !s.2.2
def ApP (L : Nat) (s : Rec) : Prop := -1 ≤ s.1 ∧ s.1 < L ∧ -1 ≤ s.2.1 ∧ s.2.1 < L
theorem apP_next (L : Nat) (hL : 1 ≤ L) (d : Int) (s : Rec) (c : Nat) (h : ApP L s) (hc : c < L) : ApP L (apN d s c) := by
  obtain ⟨h1, h2, h3, h4⟩ := h
  unfold apN ApP
  split
  · simp; omega
  · simp; omega
theorem apP_bound (L : Nat) (hL : L ≤ 6) (l : List Rec) (hn : l.Nodup) (h : ∀ s ∈ l, ApP L s) : l.length ≤ 98 := by
  refine coded_bound (fun s : Rec => ((s.1 + 1) * 14 + (s.2.1 + 1) * 2 + (if s.2.2 then 1 else 0)).toNat) 98 l hn (fun s hs => ?_) (fun s hs t ht e => ?_)
  · obtain ⟨h1, h2, h3, h4⟩ := h s hs
    split <;> omega
  · obtain ⟨h1, h2, h3, h4⟩ := h s hs
    obtain ⟨g1, g2, g3, g4⟩ := h t ht
    obtain ⟨a, b, c⟩ := s
    obtain ⟨a', b', c'⟩ := t
    dsimp only at *
    have : a = a' ∧ b = b' ∧ c = c' := by
      cases c <;> cases c' <;> simp at e ⊢ <;> omega
    obtain ⟨rfl, rfl, rfl⟩ := this
    rfl
set_option maxRecDepth 100000 in
set_option maxHeartbeats 1000000 in
theorem apKeep_any (s : Rec) (w : World) : Calls Try.prog 93 #[VR s] w fun e w' => Below w.heap.size w w' ∧ e = .returned (.bool (apK s)) := by
  obtain ⟨a, b, l⟩ := s
  have hA : Below w.heap.size w (w.alloc (.cells #[.int .i64 a, .int .i64 b, .bool l] 103)) := (Below.refl _ _).alloc (Nat.le_refl _) _
  unfold VR
  go_enter Try.func93, Try.ntmps93
  go_wp2
  go_ret
  exact ⟨hA, rfl⟩
set_option maxRecDepth 100000 in
set_option maxHeartbeats 4000000 in
theorem apNext_any (s : Rec) (c p : Nat) (d : Int) (w : World) (h : w.cell? ⟨p, 0, none⟩ = some (.int .i64 d)) : Calls Try.prog 92 #[VR s, .int .i64 c, .pointer (some ⟨p, 0, none⟩)] w fun e w' => Below w.heap.size w w' ∧ e = .returned (VR (apN d s c)) := by
  have hp := cell_lt h
  obtain ⟨a, b, l⟩ := s
  have Bad := hid (fun (hh : l = true ∨ (2 ≤ d ∧ (c : Int) = a) ∨ (3 ≤ d ∧ (c : Int) = b)) => show apN d (a, b, l) c = (0, 0, true) from if_pos hh)
  have Good := hid (fun (hh : ¬ (l = true ∨ (2 ≤ d ∧ (c : Int) = a) ∨ (3 ≤ d ∧ (c : Int) = b))) => show apN d (a, b, l) c = ((c : Int), a, false) from if_neg hh)
  have HA := hid (fun o => ((Below.refl w.heap.size w).alloc (Nat.le_refl _) (.cells #[.int .i64 a, .int .i64 b, .bool l] 103)).alloc (by simp) o)
  unfold VR
  cases l with
  | true =>
    have E := hid (Bad.out (.inl rfl))
    clear Bad Good
    go_enter Try.func92, Try.ntmps92
    go_wp2
    refine bodyPost_ret (v := VR (0, 0, true)) (by simp [VR, results, Try.results92, go_sem]) rfl ⟨HA.out _, by rw [E.out]; rfl⟩
  | false =>
    by_cases h2 : (2 ≤ d ∧ (c : Int) = a)
    · have E := hid (Bad.out (.inr (.inl h2)))
      obtain ⟨h2, e1⟩ := h2
      have e1' : ((c : Int) == a) = true := by simp [e1]
      clear Bad Good e1
      go_enter Try.func92, Try.ntmps92
      go_wp2
      refine bodyPost_ret (v := VR (0, 0, true)) (by simp [VR, results, Try.results92, go_sem]) rfl ⟨HA.out _, by rw [E.out]; rfl⟩
    · by_cases h3 : (3 ≤ d ∧ (c : Int) = b)
      · have E := hid (Bad.out (.inr (.inr h3)))
        obtain ⟨h3, e2⟩ := h3
        have h2' : 2 ≤ d := by omega
        have e1' : ((c : Int) == a) = false := by simp; intro e; exact h2 ⟨h2', e⟩
        have e2' : ((c : Int) == b) = true := by simp [e2]
        clear Bad Good e2 h2
        go_enter Try.func92, Try.ntmps92
        go_wp2
        refine bodyPost_ret (v := VR (0, 0, true)) (by simp [VR, results, Try.results92, go_sem]) rfl ⟨HA.out _, by rw [E.out]; rfl⟩
      · have E := hid (Good.out (by rintro (h | h | h); cases h; exact h2 h; exact h3 h))
        clear Bad Good
        by_cases g2 : 2 ≤ d
        · have e1' : ((c : Int) == a) = false := by simp; intro e; exact h2 ⟨g2, e⟩
          by_cases g3 : 3 ≤ d
          · have e2' : ((c : Int) == b) = false := by simp; intro e; exact h3 ⟨g3, e⟩
            clear h2 h3
            go_enter Try.func92, Try.ntmps92
            go_wp2
            refine bodyPost_ret (v := VR ((c : Int), a, false)) (by simp [VR, results, Try.results92, go_sem]) rfl ⟨HA.out _, by rw [E.out]; rfl⟩
          · clear h2 h3
            go_enter Try.func92, Try.ntmps92
            go_wp2
            refine bodyPost_ret (v := VR ((c : Int), a, false)) (by simp [VR, results, Try.results92, go_sem]) rfl ⟨HA.out _, by rw [E.out]; rfl⟩
        · have g3 : ¬ 3 ≤ d := by omega
          clear h2 h3
          go_enter Try.func92, Try.ntmps92
          go_wp2
          refine bodyPost_ret (v := VR ((c : Int), a, false)) (by simp [VR, results, Try.results92, go_sem]) rfl ⟨HA.out _, by rw [E.out]; rfl⟩
end Go.Proofs.Ytkboeldafppicaa
set_option linter.unusedVariables false
set_option linter.unusedSimpArgs false
namespace Go.Proofs.Ytkboeldafppicaa
open Go.RowKit Go.Maps

theorem egAp : (∀ args (w : World), (callFunc 92 args).run Try.prog w = .ok (.enter 92 args) w) ∧ (∀ args (w : World), (callFunc 93 args).run Try.prog w = .ok (.enter 93 args) w) := ⟨fun _ _ => by kernel_rfl, fun _ _ => by kernel_rfl⟩
/-- The language of Apart. -/
noncomputable def apL (n : Nat) (d : Int) : Lang := langOf n (apN d) apK (-1, -1, false)
def apOk (n d : Int) : Prop := 1 ≤ n ∧ n ≤ 6 ∧ 0 ≤ d ∧ d ≤ 3
instance (n d : Int) : Decidable (apOk n d) := by unfold apOk; infer_instance
theorem plainAns_grow {w w' : World} {B B' L : Nat} {f : Lang} {e : Ending} (h : PlainAns w B L f e) (hb : B' ≤ B) (hs : ∀ k, B ≤ k → k < w.heap.size → w'.heap[k]? = w.heap[k]?) (hz : w.heap.size ≤ w'.heap.size) : PlainAns w' B' L f e := by
  obtain ⟨i, h1, h2⟩ := h
  refine ⟨i, h1, ?_⟩
  rcases h2 with h2 | ⟨h3, Na, nc, Aa, ac, h4, h5⟩
  · exact .inl h2
  · exact .inr ⟨h3, Na, nc, Aa, ac, h4, (h5.same hs hz).weak hb⟩
set_option maxRecDepth 100000 in
set_option maxHeartbeats 4000000 in
theorem apart_any (n d : Int) (w : World) : Calls Try.prog 40 #[.int .i64 n, .int .i64 d] w fun e w' => Below w.heap.size w w' ∧ ((apOk n d ∧ PlainAns w' w.heap.size n.toNat (apL n.toNat d) e) ∨ (¬ apOk n d ∧ e = .returned (.tuple #[machV 0 none 0 0 none 0 0, .int .i64 1]))) := by
  have HA := hid (show Below w.heap.size w ((w.alloc (.cells #[.int .i64 d] 3)).alloc (.cells #[.int .i64 0, .slice none 0 0, .slice none 0 0] 25)) from ((Below.refl _ _).alloc (Nat.le_refl _) _).alloc (by simp) _)
  have c0 : ((w.alloc (.cells #[.int .i64 d] 3)).alloc (.cells #[.int .i64 0, .slice none 0 0, .slice none 0 0] 25)).cell? ⟨w.heap.size, 0, none⟩ = some (.int .i64 d) := by go_simp
  have HP := hid (fun (h : apOk n d) => plainR_any n.toNat (by unfold apOk at h; omega) (by unfold apOk at h; omega) (-1, -1, false) (apN d) apK (ApP n.toNat) 98 92 93 #[] #[.pointer (some ⟨w.heap.size, 0, none⟩)] #[] #[] ((w.alloc (.cells #[.int .i64 d] 3)).alloc (.cells #[.int .i64 0, .slice none 0 0, .slice none 0 0] 25))
    (by unfold ApP apOk at *; simp; omega) (fun s c hs hc => apP_next n.toNat (by unfold apOk at h; omega) d s c hs hc) (fun s hs => by unfold ApP at hs; unfold apOk at h; unfold I64; omega) (fun l hn hl => apP_bound n.toNat (by unfold apOk at h; omega) l hn hl) (by omega) egAp.1 egAp.2
    (fun w' s c hb hs hc => by
      have := apNext_any s c w.heap.size d w' ((hb.cell (cell_lt c0)).trans c0)
      simpa using this)
    (fun w' s hb hs => by
      have := apKeep_any s w'
      simpa using this))
  have HZ := hid (fun wx (hb : Below ((w.alloc (.cells #[.int .i64 d] 3)).alloc (.cells #[.int .i64 0, .slice none 0 0, .slice none 0 0] 25)).heap.size ((w.alloc (.cells #[.int .i64 d] 3)).alloc (.cells #[.int .i64 0, .slice none 0 0, .slice none 0 0] 25)) wx) => show wx.cell? ⟨w.heap.size + 1, 0, none⟩ = some (.int .i64 0) ∧ wx.cell? ⟨w.heap.size + 1, 1, none⟩ = some (.slice none 0 0) ∧ wx.cell? ⟨w.heap.size + 1, 2, none⟩ = some (.slice none 0 0) ∧ wx.frozen? ⟨w.heap.size + 1, 0, none⟩ = false ∧ wx.frozen? ⟨w.heap.size + 1, 1, none⟩ = false ∧ wx.frozen? ⟨w.heap.size + 1, 2, none⟩ = false from
    ⟨by rw [hb.cell (by simp)]; go_simp, by rw [hb.cell (by simp)]; go_simp, by rw [hb.cell (by simp)]; go_simp, by rw [hb.frozen (by simp)]; go_simp, by rw [hb.frozen (by simp)]; go_simp, by rw [hb.frozen (by simp)]; go_simp⟩)
  clear c0
  go_enter Try.func40, Try.ntmps40
  go_wp2_with fail
  refine (mIsLetters_any n _).mono ?_
  rintro e w1 ⟨rfl, rfl⟩
  by_cases h1 : (1 ≤ n ∧ n ≤ 6)
  · have hd : decide (1 ≤ n ∧ n ≤ 6) = true := by simpa using h1
    rw [hd]
    clear hd
    by_cases h2 : d < 0
    · have hno : ¬ apOk n d := by unfold apOk; omega
      have HNo := hid hno
      clear hno
      go_wp2
      refine bodyPost_ret (v := .tuple #[machV 0 none 0 0 none 0 0, .int .i64 1]) (by simp [machV, results, Try.results40, go_sem]) rfl ⟨HA.out, .inr ⟨HNo.out, rfl⟩⟩
    · by_cases h3 : 3 < d
      · have hno : ¬ apOk n d := by unfold apOk; omega
        have HNo := hid hno
        clear hno
        go_wp2
        refine bodyPost_ret (v := .tuple #[machV 0 none 0 0 none 0 0, .int .i64 1]) (by simp [machV, results, Try.results40, go_sem]) rfl ⟨HA.out, .inr ⟨HNo.out, rfl⟩⟩
      · have hok : apOk n d := by unfold apOk; omega
        have HOk := hid hok
        have HP := hid (HP.out hok)
        clear hok
        have hnn : ((n.toNat : Nat) : Int) = n := by omega
        rw [hnn] at HP
        go_wp2_with fail
        refine HP.out.mono ?_
        rintro e w5 ⟨hb5, i, hF, hans⟩
        obtain ⟨z0, z1, z2, y0, y1, y2⟩ := HZ.out w5 hb5
        have HB5 := hid (HA.out.trans (hb5.mono HA.out.size))
        have hsz : w.heap.size + 1 < w5.heap.size := cell_lt z0
        have HF := hid hF
        clear hb5 HZ HP hF
        rcases hans with ⟨h64, rfl⟩ | ⟨h64, Na, nc, Aa, ac, rfl, hM⟩
        · unfold machV
          go_wp2
          have t0 : (((w5.setCell ⟨w.heap.size + 1, 0, none⟩ (.int .i64 0)).setCell ⟨w.heap.size + 1, 1, none⟩ (.slice none 0 0)).setCell ⟨w.heap.size + 1, 2, none⟩ (.slice none 0 0)).cell? ⟨w.heap.size + 1, 0, none⟩ = some (.int .i64 0) := by go_simp
          have t1 : (((w5.setCell ⟨w.heap.size + 1, 0, none⟩ (.int .i64 0)).setCell ⟨w.heap.size + 1, 1, none⟩ (.slice none 0 0)).setCell ⟨w.heap.size + 1, 2, none⟩ (.slice none 0 0)).cell? ⟨w.heap.size + 1, 1, none⟩ = some (.slice none 0 0) := by go_simp
          have t2 : (((w5.setCell ⟨w.heap.size + 1, 0, none⟩ (.int .i64 0)).setCell ⟨w.heap.size + 1, 1, none⟩ (.slice none 0 0)).setCell ⟨w.heap.size + 1, 2, none⟩ (.slice none 0 0)).cell? ⟨w.heap.size + 1, 2, none⟩ = some (.slice none 0 0) := by go_simp
          have HBz := hid (((HB5.out.setCell (p := ⟨w.heap.size + 1, 0, none⟩) (by simp) (.int .i64 0)).setCell (p := ⟨w.heap.size + 1, 1, none⟩) (by simp) (.slice none 0 0)).setCell (p := ⟨w.heap.size + 1, 2, none⟩) (by simp) (.slice none 0 0))
          generalize (((w5.setCell ⟨w.heap.size + 1, 0, none⟩ (.int .i64 0)).setCell ⟨w.heap.size + 1, 1, none⟩ (.slice none 0 0)).setCell ⟨w.heap.size + 1, 2, none⟩ (.slice none 0 0)) = wz at *
          refine bodyPost_ret (v := .tuple #[machV 0 none 0 0 none 0 0, .int .i64 4]) (by simp [machV, results, Try.results40, go_sem, t0, t1, t2]) rfl ⟨HBz.out, .inl ⟨HOk.out, i, HF.out, .inl ⟨h64, rfl⟩⟩⟩

        · unfold machV
          rw [hnn]
          have HM := hid hM
          clear hM
          go_wp2
          have t0 : (((w5.setCell ⟨w.heap.size + 1, 0, none⟩ (.int .i64 n)).setCell ⟨w.heap.size + 1, 1, none⟩ (.slice Na i nc)).setCell ⟨w.heap.size + 1, 2, none⟩ (.slice Aa i ac)).cell? ⟨w.heap.size + 1, 0, none⟩ = some (.int .i64 n) := by go_simp
          have t1 : (((w5.setCell ⟨w.heap.size + 1, 0, none⟩ (.int .i64 n)).setCell ⟨w.heap.size + 1, 1, none⟩ (.slice Na i nc)).setCell ⟨w.heap.size + 1, 2, none⟩ (.slice Aa i ac)).cell? ⟨w.heap.size + 1, 1, none⟩ = some (.slice Na i nc) := by go_simp
          have t2 : (((w5.setCell ⟨w.heap.size + 1, 0, none⟩ (.int .i64 n)).setCell ⟨w.heap.size + 1, 1, none⟩ (.slice Na i nc)).setCell ⟨w.heap.size + 1, 2, none⟩ (.slice Aa i ac)).cell? ⟨w.heap.size + 1, 2, none⟩ = some (.slice Aa i ac) := by go_simp
          have HBz := hid (((HB5.out.setCell (p := ⟨w.heap.size + 1, 0, none⟩) (by simp) (.int .i64 n)).setCell (p := ⟨w.heap.size + 1, 1, none⟩) (by simp) (.slice Na i nc)).setCell (p := ⟨w.heap.size + 1, 2, none⟩) (by simp) (.slice Aa i ac))
          have HMz := hid ((((HM.out.setCell ⟨w.heap.size + 1, 0, none⟩ (.int .i64 n) (by simp)).setCell ⟨w.heap.size + 1, 1, none⟩ (.slice Na i nc) (by simp)).setCell ⟨w.heap.size + 1, 2, none⟩ (.slice Aa i ac) (by simp)).weak (B' := w.heap.size) (by simp; omega))
          generalize (((w5.setCell ⟨w.heap.size + 1, 0, none⟩ (.int .i64 n)).setCell ⟨w.heap.size + 1, 1, none⟩ (.slice Na i nc)).setCell ⟨w.heap.size + 1, 2, none⟩ (.slice Aa i ac)) = wz at *
          refine bodyPost_ret (v := .tuple #[machV n Na i nc Aa i ac, .int .i64 0]) (by simp [machV, results, Try.results40, go_sem, t0, t1, t2]) rfl ⟨HBz.out, .inl ⟨HOk.out, i, HF.out, .inr ⟨h64, Na, nc, Aa, ac, by rw [hnn], HMz.out⟩⟩⟩

  · have hd : decide (1 ≤ n ∧ n ≤ 6) = false := by simpa using h1
    rw [hd]
    clear hd
    have hno : ¬ apOk n d := by unfold apOk; omega
    have HNo := hid hno
    clear hno
    go_wp2
    refine bodyPost_ret (v := .tuple #[machV 0 none 0 0 none 0 0, .int .i64 1]) (by simp [machV, results, Try.results40, go_sem]) rfl ⟨HA.out, .inr ⟨HNo.out, rfl⟩⟩
end Go.Proofs.Ytkboeldafppicaa
