/- Apart, Never, Least and Most of the document. -/
import Derived.Test.YtkboeldafppicaaRMade
import Derived.Test.YtkboeldafppicaaMRef
set_option linter.unusedVariables false
set_option linter.unusedSimpArgs false
namespace Go.Proofs.Ytkboeldafppicaa
open Go.RowKit Go.Maps

theorem ru_apart (n : Nat) (d : Int) : ruL n 0 d 0 = apL n d := by
  refine (langOf_rel (R := fun (s : Rec) (t : R4) => s.2.2 = t.2.2.2 ∧ (t.2.2.2 = false → s.1 = t.1 ∧ s.2.1 = t.2.1)) n (apN d) (nx4 0 d 0) apK (kp4 0 0) ?_ ?_ (-1, -1, false) (-1, -1, 0, false) ⟨rfl, fun _ => ⟨rfl, rfl⟩⟩).symm
  · rintro ⟨a, b, l⟩ ⟨p, q, t, m⟩ c ⟨h1, h2⟩ hc
    dsimp only at h1 h2
    subst h1
    have hn : nx4 0 d 0 (p, q, t, l) c = ((c : Int), p, 0, br0 d (p, q, t, l) c) := rfl
    rw [hn]
    cases l with
    | true =>
      have hb : br0 d (p, q, t, true) c = true := by simp [br0]
      have ha : apN d (a, b, true) c = (0, 0, true) := if_pos (.inl rfl)
      rw [hb, ha]
      exact ⟨rfl, fun e => by cases e⟩
    | false =>
      obtain ⟨rfl, rfl⟩ := h2 rfl
      by_cases hq : (2 ≤ d ∧ (c : Int) = a) ∨ (3 ≤ d ∧ (c : Int) = b)
      · have hb : br0 d (a, b, t, false) c = true := by
          rcases hq with ⟨g1, g2⟩ | ⟨g1, g2⟩ <;> simp [br0, g1, g2]
        have ha : apN d (a, b, false) c = (0, 0, true) := if_pos (.inr hq)
        rw [hb, ha]
        exact ⟨rfl, fun e => by cases e⟩
      · have hb : br0 d (a, b, t, false) c = false := by
          unfold br0
          dsimp only
          simp only [not_or, not_and] at hq
          obtain ⟨g1, g2⟩ := hq
          by_cases k1 : 2 ≤ d
          · by_cases k2 : 3 ≤ d
            · simp [g1 k1, g2 k2]
            · simp [g1 k1, k2]
          · have k2 : ¬ 3 ≤ d := by omega
            simp [k1, k2]
        have ha : apN d (a, b, false) c = ((c : Int), a, false) := if_neg (by rintro (e | e); cases e; exact hq e)
        rw [hb, ha]
        exact ⟨rfl, fun _ => ⟨rfl, rfl⟩⟩
  · rintro ⟨a, b, l⟩ ⟨p, q, t, m⟩ ⟨h1, h2⟩
    dsimp only at h1
    subst h1
    rfl
theorem ru_never (n : Nat) (a b : Int) (ha : 0 ≤ a) : ruL n 3 a b = nvL n a b := by
  refine (langOf_rel (R := fun (s : Int) (t : R4) => (s = 2 ↔ t.2.2.2 = true) ∧ (t.2.2.2 = false → (s = 1 ↔ t.1 = a) ∧ (s = 0 ∨ s = 1))) n (nvN a b) (nx4 3 a b) nvK (kp4 3 b) ?_ ?_ 0 (-1, -1, 0, false) ⟨by simp, fun _ => ⟨by simp; omega, .inl rfl⟩⟩).symm
  · rintro s ⟨p, q, t, m⟩ c ⟨h1, h2⟩ hc
    dsimp only at h1 h2
    have hn : nx4 3 a b (p, q, t, m) c = ((c : Int), -1, 0, br3 a b (p, q, t, m) c) := rfl
    rw [hn]
    cases m with
    | true =>
      have hb : br3 a b (p, q, t, true) c = true := by simp [br3]
      have hs : s = 2 := h1.2 rfl
      have hx : nvN a b s c = 2 := if_pos (.inl hs)
      rw [hb, hx]
      exact ⟨by simp, fun e => by cases e⟩
    | false =>
      obtain ⟨h3, h4⟩ := h2 rfl
      have hs2 : s ≠ 2 := by omega
      by_cases hp : p = a
      · have hs1 := h3.2 hp
        by_cases hcb : (c : Int) = b
        · have hb : br3 a b (p, q, t, false) c = true := by simp [br3, hp, hcb]
          have hx : nvN a b s c = 2 := if_pos (.inr ⟨hs1, hcb⟩)
          rw [hb, hx]
          exact ⟨by simp, fun e => by cases e⟩
        · have hb : br3 a b (p, q, t, false) c = false := by simp [br3, hcb]
          have hx : nvN a b s c = if (c : Int) = a then 1 else 0 := if_neg (by rintro (e | e); exact hs2 e; exact hcb e.2)
          rw [hb, hx]
          by_cases hca : (c : Int) = a
          · rw [if_pos hca]; exact ⟨by simp, fun _ => ⟨by simp [hca], .inr rfl⟩⟩
          · rw [if_neg hca]; exact ⟨by simp, fun _ => ⟨by simp [hca], .inl rfl⟩⟩
      · have hs1 : s ≠ 1 := fun e => hp (h3.1 e)
        have hb : br3 a b (p, q, t, false) c = false := by simp [br3, hp]
        have hx : nvN a b s c = if (c : Int) = a then 1 else 0 := if_neg (by rintro (e | e); exact hs2 e; exact hs1 e.1)
        rw [hb, hx]
        by_cases hca : (c : Int) = a
        · rw [if_pos hca]; exact ⟨by simp, fun _ => ⟨by simp [hca], .inr rfl⟩⟩
        · rw [if_neg hca]; exact ⟨by simp, fun _ => ⟨by simp [hca], .inl rfl⟩⟩
  · rintro s ⟨p, q, t, m⟩ ⟨h1, h2⟩
    dsimp only at h1
    show nvK s = !m
    unfold nvK
    cases m with
    | true => rw [h1.2 rfl]; rfl
    | false =>
      have : s ≠ 2 := fun e => by have := h1.1 e; cases this
      simp [this]
theorem ru_count (n : Nat) (kind a b e : Int) (hk : kind = 1 ∨ kind = 2) (he : 0 ≤ e ∧ e ≤ 21) (acc : Int → Bool) (hacc : ∀ t, 0 ≤ t → acc (min t e) = kp4 kind b (0, 0, t, false)) : ruL n kind a b = langOf n (ctN a e) acc 0 := by
  have hk0 : kind ≠ 0 := by omega
  have hk3 : kind ≠ 3 := by omega
  refine (langOf_rel (R := fun (s : Int) (t : R4) => s = min t.2.2.1 e ∧ 0 ≤ t.2.2.1) n (ctN a e) (nx4 kind a b) acc (kp4 kind b) ?_ ?_ 0 (-1, -1, 0, false) ⟨by dsimp only; omega, Int.le_refl _⟩).symm
  · rintro s ⟨p, q, t, m⟩ c ⟨h1, h2⟩ hc
    dsimp only at h1 h2
    unfold nx4 ctN
    rw [if_neg hk0, if_neg hk3]
    by_cases hca : (c : Int) = a
    · rw [if_pos hca]
      dsimp only
      by_cases hse : s < e
      · rw [if_pos ⟨hca, hse⟩]; omega
      · rw [if_neg (fun h => hse h.2)]; omega
    · rw [if_neg hca, if_neg (fun h => hca h.1)]
      exact ⟨h1, h2⟩
  · rintro s ⟨p, q, t, m⟩ ⟨h1, h2⟩
    dsimp only at h1 h2
    rw [h1, hacc t h2]
    unfold kp4
    rcases hk with rfl | rfl <;> rfl
theorem ru_least (n : Nat) (a b : Int) (hb : 0 ≤ b ∧ b ≤ 20) : ruL n 1 a b = leL n a b := ru_count n 1 a b b (.inl rfl) (by omega) (leK b) (fun t ht => by
  show decide (b ≤ min t b) = decide (b ≤ t)
  by_cases h : b ≤ t
  · rw [decide_eq_true h, decide_eq_true (by omega)]
  · rw [decide_eq_false h, decide_eq_false (by omega)])
theorem ru_most (n : Nat) (a b : Int) (hb : 0 ≤ b ∧ b ≤ 20) : ruL n 2 a b = moL n a b := ru_count n 2 a b (b + 1) (.inr rfl) (by omega) (moK b) (fun t ht => by
  show decide (min t (b + 1) ≤ b) = decide (t ≤ b)
  by_cases h : t ≤ b
  · rw [decide_eq_true h, decide_eq_true (by omega)]
  · rw [decide_eq_false h, decide_eq_false (by omega)])
set_option maxRecDepth 100000 in
set_option maxHeartbeats 1000000 in
theorem rCounted_any (n a t : Int) (w : World) : Calls Try.prog 103 #[.int .i64 n, .int .i64 a, .int .i64 t] w fun e w' => w' = w ∧ e = .returned (.int .i64 (if tmOk n a t then 0 else 1)) := by
  obtain ⟨R, hR0⟩ : ∃ R : Int, R = if tmOk n a t then 0 else 1 := ⟨_, rfl⟩
  rw [← hR0]
  have HR0 := hid hR0
  clear hR0
  by_cases h1 : 1 ≤ n ∧ n ≤ 6
  · have q1 : decide (1 ≤ n ∧ n ≤ 6) = true := decide_eq_true h1
    by_cases h2 : 0 ≤ a ∧ a ≤ n - 1
    · have q2 : decide (0 ≤ a ∧ a ≤ n - 1) = true := decide_eq_true h2
      cases q3 : decide (0 ≤ t ∧ t ≤ 20) with
      | true =>
        have E := hid (show R = 0 from HR0.out.trans (if_pos (by have := of_decide_eq_true q3; unfold tmOk; omega)))
        have K3 := hid (fun wx => rWithin_any t 0 20 wx)
        rw [q3] at K3
        clear q3
        go_enter Try.func103, Try.ntmps103
        go_wp2_with fail
        refine (rWithin_any n 1 6 _).mono ?_
        rintro e w1 ⟨rfl, rfl⟩
        rw [q1]
        go_wp2_with fail
        refine (rWithin_any a 0 (n - 1) _).mono ?_
        rintro e w1 ⟨rfl, rfl⟩
        rw [q2]
        go_wp2_with fail
        refine (K3.out _).mono ?_
        rintro e w1 ⟨rfl, rfl⟩
        go_wp2
        go_ret
        exact ⟨rfl, by rw [E.out]; rfl⟩
      | false =>
        have E := hid (show R = 1 from HR0.out.trans (if_neg (by have := of_decide_eq_false q3; unfold tmOk; omega)))
        have K3 := hid (fun wx => rWithin_any t 0 20 wx)
        rw [q3] at K3
        clear q3
        go_enter Try.func103, Try.ntmps103
        go_wp2_with fail
        refine (rWithin_any n 1 6 _).mono ?_
        rintro e w1 ⟨rfl, rfl⟩
        rw [q1]
        go_wp2_with fail
        refine (rWithin_any a 0 (n - 1) _).mono ?_
        rintro e w1 ⟨rfl, rfl⟩
        rw [q2]
        go_wp2_with fail
        refine (K3.out _).mono ?_
        rintro e w1 ⟨rfl, rfl⟩
        go_wp2
        go_ret
        exact ⟨rfl, by rw [E.out]; rfl⟩
    · have q2 : decide (0 ≤ a ∧ a ≤ n - 1) = false := decide_eq_false h2
      have E := hid (show R = 1 from HR0.out.trans (if_neg (by unfold tmOk; omega)))
      clear h2
      go_enter Try.func103, Try.ntmps103
      go_wp2_with fail
      refine (rWithin_any n 1 6 _).mono ?_
      rintro e w1 ⟨rfl, rfl⟩
      rw [q1]
      go_wp2_with fail
      refine (rWithin_any a 0 (n - 1) _).mono ?_
      rintro e w1 ⟨rfl, rfl⟩
      rw [q2]
      go_wp2
      go_ret
      exact ⟨rfl, by rw [E.out]; rfl⟩
  · have q1 : decide (1 ≤ n ∧ n ≤ 6) = false := decide_eq_false h1
    have E := hid (show R = 1 from HR0.out.trans (if_neg (by unfold tmOk; omega)))
    clear h1
    go_enter Try.func103, Try.ntmps103
    go_wp2_with fail
    refine (rWithin_any n 1 6 _).mono ?_
    rintro e w1 ⟨rfl, rfl⟩
    rw [q1]
    go_wp2
    go_ret
    exact ⟨rfl, by rw [E.out]; rfl⟩
set_option maxRecDepth 100000 in
set_option maxHeartbeats 4000000 in
theorem rApart_any (n d : Int) (w : World) : Calls Try.prog 41 #[.int .i64 n, .int .i64 d] w fun e w' => Below w.heap.size w w' ∧ ((apOk n d ∧ PlainAns w' w.heap.size n.toNat (apL n.toNat d) e) ∨ (¬ apOk n d ∧ e = .returned (.tuple #[machV 0 none 0 0 none 0 0, .int .i64 1]))) := by
  have HA := hid (show Below w.heap.size w (w.alloc (.cells #[.int .i64 0, .slice none 0 0, .slice none 0 0] 25)) from (Below.refl _ _).alloc (Nat.le_refl _) _)
  have HZ := hid (fun wx (hb : Below (w.alloc (.cells #[.int .i64 0, .slice none 0 0, .slice none 0 0] 25)).heap.size (w.alloc (.cells #[.int .i64 0, .slice none 0 0, .slice none 0 0] 25)) wx) => show wx.cell? ⟨w.heap.size, 0, none⟩ = some (.int .i64 0) ∧ wx.cell? ⟨w.heap.size, 1, none⟩ = some (.slice none 0 0) ∧ wx.cell? ⟨w.heap.size, 2, none⟩ = some (.slice none 0 0) ∧ wx.frozen? ⟨w.heap.size, 0, none⟩ = false ∧ wx.frozen? ⟨w.heap.size, 1, none⟩ = false ∧ wx.frozen? ⟨w.heap.size, 2, none⟩ = false from
    ⟨by rw [hb.cell (by simp)]; go_simp, by rw [hb.cell (by simp)]; go_simp, by rw [hb.cell (by simp)]; go_simp, by rw [hb.frozen (by simp)]; go_simp, by rw [hb.frozen (by simp)]; go_simp, by rw [hb.frozen (by simp)]; go_simp⟩)
  by_cases hn : apOk n d
  · have HOk := hid hn
    have HP := hid (rMade_any n.toNat (by unfold apOk at hn; omega) (by unfold apOk at hn; omega) 0 d 0 (by decide) (w.alloc (.cells #[.int .i64 0, .slice none 0 0, .slice none 0 0] 25)))
    rw [ru_apart] at HP
    have hnn : ((n.toNat : Nat) : Int) = n := by unfold apOk at hn; omega
    rw [hnn] at HP
    have q0 : decide (1 ≤ n ∧ n ≤ 6) = true := decide_eq_true (by unfold apOk at hn; omega)
    have q1 : decide (0 ≤ d ∧ d ≤ 3) = true := decide_eq_true (by unfold apOk at hn; omega)
    have K0 := hid (fun wx => rWithin_any n 1 6 wx)
    rw [q0] at K0
    have K1 := hid (fun wx => rWithin_any d 0 3 wx)
    rw [q1] at K1
    have hn1 : 1 ≤ n ∧ n ≤ 6 := by unfold apOk at hn; omega
    clear hn q0 q1
    go_enter Try.func41, Try.ntmps41
    go_wp2_with fail
    refine (K0.out _).mono ?_
    rintro e w1 ⟨rfl, rfl⟩
    go_wp2_with fail
    refine (K1.out _).mono ?_
    rintro e w1 ⟨rfl, rfl⟩
    go_wp2_with fail
    refine HP.out.mono ?_
    rintro e w5 ⟨hb5, i, hF, hans⟩
    obtain ⟨z0, z1, z2, y0, y1, y2⟩ := HZ.out w5 hb5
    have HB5 := hid (HA.out.trans (hb5.mono HA.out.size))
    have hsz : w.heap.size < w5.heap.size := cell_lt z0
    have HF := hid hF
    clear hb5 HZ HP hF
    rcases hans with ⟨h64, rfl⟩ | ⟨h64, Na, nc, Aa, ac, rfl, hM⟩
    · unfold machV
      go_wp2
      have t0 : (((w5.setCell ⟨w.heap.size, 0, none⟩ (.int .i64 0)).setCell ⟨w.heap.size, 1, none⟩ (.slice none 0 0)).setCell ⟨w.heap.size, 2, none⟩ (.slice none 0 0)).cell? ⟨w.heap.size, 0, none⟩ = some (.int .i64 0) := by go_simp
      have t1 : (((w5.setCell ⟨w.heap.size, 0, none⟩ (.int .i64 0)).setCell ⟨w.heap.size, 1, none⟩ (.slice none 0 0)).setCell ⟨w.heap.size, 2, none⟩ (.slice none 0 0)).cell? ⟨w.heap.size, 1, none⟩ = some (.slice none 0 0) := by go_simp
      have t2 : (((w5.setCell ⟨w.heap.size, 0, none⟩ (.int .i64 0)).setCell ⟨w.heap.size, 1, none⟩ (.slice none 0 0)).setCell ⟨w.heap.size, 2, none⟩ (.slice none 0 0)).cell? ⟨w.heap.size, 2, none⟩ = some (.slice none 0 0) := by go_simp
      have HBz := hid (((HB5.out.setCell (p := ⟨w.heap.size, 0, none⟩) (by simp) (.int .i64 0)).setCell (p := ⟨w.heap.size, 1, none⟩) (by simp) (.slice none 0 0)).setCell (p := ⟨w.heap.size, 2, none⟩) (by simp) (.slice none 0 0))
      generalize (((w5.setCell ⟨w.heap.size, 0, none⟩ (.int .i64 0)).setCell ⟨w.heap.size, 1, none⟩ (.slice none 0 0)).setCell ⟨w.heap.size, 2, none⟩ (.slice none 0 0)) = wz at *
      refine bodyPost_ret (v := .tuple #[machV 0 none 0 0 none 0 0, .int .i64 4]) (by simp [machV, results, Try.results41, go_sem, t0, t1, t2]) rfl ⟨HBz.out, .inl ⟨HOk.out, i, HF.out, .inl ⟨h64, rfl⟩⟩⟩
    · unfold machV
      rw [hnn]
      have HM := hid hM
      clear hM
      go_wp2
      have t0 : (((w5.setCell ⟨w.heap.size, 0, none⟩ (.int .i64 n)).setCell ⟨w.heap.size, 1, none⟩ (.slice Na i nc)).setCell ⟨w.heap.size, 2, none⟩ (.slice Aa i ac)).cell? ⟨w.heap.size, 0, none⟩ = some (.int .i64 n) := by go_simp
      have t1 : (((w5.setCell ⟨w.heap.size, 0, none⟩ (.int .i64 n)).setCell ⟨w.heap.size, 1, none⟩ (.slice Na i nc)).setCell ⟨w.heap.size, 2, none⟩ (.slice Aa i ac)).cell? ⟨w.heap.size, 1, none⟩ = some (.slice Na i nc) := by go_simp
      have t2 : (((w5.setCell ⟨w.heap.size, 0, none⟩ (.int .i64 n)).setCell ⟨w.heap.size, 1, none⟩ (.slice Na i nc)).setCell ⟨w.heap.size, 2, none⟩ (.slice Aa i ac)).cell? ⟨w.heap.size, 2, none⟩ = some (.slice Aa i ac) := by go_simp
      have HBz := hid (((HB5.out.setCell (p := ⟨w.heap.size, 0, none⟩) (by simp) (.int .i64 n)).setCell (p := ⟨w.heap.size, 1, none⟩) (by simp) (.slice Na i nc)).setCell (p := ⟨w.heap.size, 2, none⟩) (by simp) (.slice Aa i ac))
      have HMz := hid ((((HM.out.setCell ⟨w.heap.size, 0, none⟩ (.int .i64 n) (by first | omega | (simp; done) | (simp; omega) | (simp at *; omega))).setCell ⟨w.heap.size, 1, none⟩ (.slice Na i nc) (by first | omega | (simp; done) | (simp; omega) | (simp at *; omega))).setCell ⟨w.heap.size, 2, none⟩ (.slice Aa i ac) (by first | omega | (simp; done) | (simp; omega) | (simp at *; omega))).weak (B' := w.heap.size) (by first | omega | (simp; done) | (simp; omega)))
      generalize (((w5.setCell ⟨w.heap.size, 0, none⟩ (.int .i64 n)).setCell ⟨w.heap.size, 1, none⟩ (.slice Na i nc)).setCell ⟨w.heap.size, 2, none⟩ (.slice Aa i ac)) = wz at *
      refine bodyPost_ret (v := .tuple #[machV n Na i nc Aa i ac, .int .i64 0]) (by simp [machV, results, Try.results41, go_sem, t0, t1, t2]) rfl ⟨HBz.out, .inl ⟨HOk.out, i, HF.out, .inr ⟨h64, Na, nc, Aa, ac, by rw [hnn], HMz.out⟩⟩⟩
  · have HNo := hid hn
    clear HZ
    go_enter Try.func41, Try.ntmps41
    go_wp2_with fail
    refine (rWithin_any n 1 6 _).mono ?_
    rintro e w1 ⟨rfl, rfl⟩
    by_cases g0 : 1 ≤ n ∧ n ≤ 6
    · rw [decide_eq_true g0]
      go_wp2_with fail
      refine (rWithin_any d 0 3 _).mono ?_
      rintro e w1 ⟨rfl, rfl⟩
      have q1 : decide (0 ≤ d ∧ d ≤ 3) = false := decide_eq_false (by unfold apOk at hn; omega)
      rw [q1]
      clear hn q1
      go_wp2
      refine bodyPost_ret (v := .tuple #[machV 0 none 0 0 none 0 0, .int .i64 1]) (by simp [machV, results, Try.results41, go_sem]) rfl ⟨HA.out, .inr ⟨HNo.out, rfl⟩⟩
    · rw [decide_eq_false g0]
      clear hn g0
      go_wp2
      refine bodyPost_ret (v := .tuple #[machV 0 none 0 0 none 0 0, .int .i64 1]) (by simp [machV, results, Try.results41, go_sem]) rfl ⟨HA.out, .inr ⟨HNo.out, rfl⟩⟩
set_option maxRecDepth 100000 in
set_option maxHeartbeats 4000000 in
theorem rNever_any (n a b : Int) (w : World) : Calls Try.prog 43 #[.int .i64 n, .int .i64 a, .int .i64 b] w fun e w' => Below w.heap.size w w' ∧ ((nvOk n a b ∧ PlainAns w' w.heap.size n.toNat (nvL n.toNat a b) e) ∨ (¬ nvOk n a b ∧ e = .returned (.tuple #[machV 0 none 0 0 none 0 0, .int .i64 1]))) := by
  have HA := hid (show Below w.heap.size w (w.alloc (.cells #[.int .i64 0, .slice none 0 0, .slice none 0 0] 25)) from (Below.refl _ _).alloc (Nat.le_refl _) _)
  have HZ := hid (fun wx (hb : Below (w.alloc (.cells #[.int .i64 0, .slice none 0 0, .slice none 0 0] 25)).heap.size (w.alloc (.cells #[.int .i64 0, .slice none 0 0, .slice none 0 0] 25)) wx) => show wx.cell? ⟨w.heap.size, 0, none⟩ = some (.int .i64 0) ∧ wx.cell? ⟨w.heap.size, 1, none⟩ = some (.slice none 0 0) ∧ wx.cell? ⟨w.heap.size, 2, none⟩ = some (.slice none 0 0) ∧ wx.frozen? ⟨w.heap.size, 0, none⟩ = false ∧ wx.frozen? ⟨w.heap.size, 1, none⟩ = false ∧ wx.frozen? ⟨w.heap.size, 2, none⟩ = false from
    ⟨by rw [hb.cell (by simp)]; go_simp, by rw [hb.cell (by simp)]; go_simp, by rw [hb.cell (by simp)]; go_simp, by rw [hb.frozen (by simp)]; go_simp, by rw [hb.frozen (by simp)]; go_simp, by rw [hb.frozen (by simp)]; go_simp⟩)
  by_cases hn : nvOk n a b
  · have HOk := hid hn
    have HP := hid (rMade_any n.toNat (by unfold nvOk at hn; omega) (by unfold nvOk at hn; omega) 3 a b (by decide) (w.alloc (.cells #[.int .i64 0, .slice none 0 0, .slice none 0 0] 25)))
    rw [ru_never n.toNat a b (by unfold nvOk at hn; omega)] at HP
    have hnn : ((n.toNat : Nat) : Int) = n := by unfold nvOk at hn; omega
    rw [hnn] at HP
    have q0 : decide (1 ≤ n ∧ n ≤ 6) = true := decide_eq_true (by unfold nvOk at hn; omega)
    have q1 : decide (0 ≤ a ∧ a ≤ (n - 1)) = true := decide_eq_true (by unfold nvOk at hn; omega)
    have q2 : decide (0 ≤ b ∧ b ≤ (n - 1)) = true := decide_eq_true (by unfold nvOk at hn; omega)
    have K0 := hid (fun wx => rWithin_any n 1 6 wx)
    rw [q0] at K0
    have K1 := hid (fun wx => rWithin_any a 0 (n - 1) wx)
    rw [q1] at K1
    have K2 := hid (fun wx => rWithin_any b 0 (n - 1) wx)
    rw [q2] at K2
    have hn1 : 1 ≤ n ∧ n ≤ 6 := by unfold nvOk at hn; omega
    clear hn q0 q1 q2
    go_enter Try.func43, Try.ntmps43
    go_wp2_with fail
    refine (K0.out _).mono ?_
    rintro e w1 ⟨rfl, rfl⟩
    go_wp2_with fail
    refine (K1.out _).mono ?_
    rintro e w1 ⟨rfl, rfl⟩
    go_wp2_with fail
    refine (K2.out _).mono ?_
    rintro e w1 ⟨rfl, rfl⟩
    go_wp2_with fail
    refine HP.out.mono ?_
    rintro e w5 ⟨hb5, i, hF, hans⟩
    obtain ⟨z0, z1, z2, y0, y1, y2⟩ := HZ.out w5 hb5
    have HB5 := hid (HA.out.trans (hb5.mono HA.out.size))
    have hsz : w.heap.size < w5.heap.size := cell_lt z0
    have HF := hid hF
    clear hb5 HZ HP hF
    rcases hans with ⟨h64, rfl⟩ | ⟨h64, Na, nc, Aa, ac, rfl, hM⟩
    · unfold machV
      go_wp2
      have t0 : (((w5.setCell ⟨w.heap.size, 0, none⟩ (.int .i64 0)).setCell ⟨w.heap.size, 1, none⟩ (.slice none 0 0)).setCell ⟨w.heap.size, 2, none⟩ (.slice none 0 0)).cell? ⟨w.heap.size, 0, none⟩ = some (.int .i64 0) := by go_simp
      have t1 : (((w5.setCell ⟨w.heap.size, 0, none⟩ (.int .i64 0)).setCell ⟨w.heap.size, 1, none⟩ (.slice none 0 0)).setCell ⟨w.heap.size, 2, none⟩ (.slice none 0 0)).cell? ⟨w.heap.size, 1, none⟩ = some (.slice none 0 0) := by go_simp
      have t2 : (((w5.setCell ⟨w.heap.size, 0, none⟩ (.int .i64 0)).setCell ⟨w.heap.size, 1, none⟩ (.slice none 0 0)).setCell ⟨w.heap.size, 2, none⟩ (.slice none 0 0)).cell? ⟨w.heap.size, 2, none⟩ = some (.slice none 0 0) := by go_simp
      have HBz := hid (((HB5.out.setCell (p := ⟨w.heap.size, 0, none⟩) (by simp) (.int .i64 0)).setCell (p := ⟨w.heap.size, 1, none⟩) (by simp) (.slice none 0 0)).setCell (p := ⟨w.heap.size, 2, none⟩) (by simp) (.slice none 0 0))
      generalize (((w5.setCell ⟨w.heap.size, 0, none⟩ (.int .i64 0)).setCell ⟨w.heap.size, 1, none⟩ (.slice none 0 0)).setCell ⟨w.heap.size, 2, none⟩ (.slice none 0 0)) = wz at *
      refine bodyPost_ret (v := .tuple #[machV 0 none 0 0 none 0 0, .int .i64 4]) (by simp [machV, results, Try.results43, go_sem, t0, t1, t2]) rfl ⟨HBz.out, .inl ⟨HOk.out, i, HF.out, .inl ⟨h64, rfl⟩⟩⟩
    · unfold machV
      rw [hnn]
      have HM := hid hM
      clear hM
      go_wp2
      have t0 : (((w5.setCell ⟨w.heap.size, 0, none⟩ (.int .i64 n)).setCell ⟨w.heap.size, 1, none⟩ (.slice Na i nc)).setCell ⟨w.heap.size, 2, none⟩ (.slice Aa i ac)).cell? ⟨w.heap.size, 0, none⟩ = some (.int .i64 n) := by go_simp
      have t1 : (((w5.setCell ⟨w.heap.size, 0, none⟩ (.int .i64 n)).setCell ⟨w.heap.size, 1, none⟩ (.slice Na i nc)).setCell ⟨w.heap.size, 2, none⟩ (.slice Aa i ac)).cell? ⟨w.heap.size, 1, none⟩ = some (.slice Na i nc) := by go_simp
      have t2 : (((w5.setCell ⟨w.heap.size, 0, none⟩ (.int .i64 n)).setCell ⟨w.heap.size, 1, none⟩ (.slice Na i nc)).setCell ⟨w.heap.size, 2, none⟩ (.slice Aa i ac)).cell? ⟨w.heap.size, 2, none⟩ = some (.slice Aa i ac) := by go_simp
      have HBz := hid (((HB5.out.setCell (p := ⟨w.heap.size, 0, none⟩) (by simp) (.int .i64 n)).setCell (p := ⟨w.heap.size, 1, none⟩) (by simp) (.slice Na i nc)).setCell (p := ⟨w.heap.size, 2, none⟩) (by simp) (.slice Aa i ac))
      have HMz := hid ((((HM.out.setCell ⟨w.heap.size, 0, none⟩ (.int .i64 n) (by first | omega | (simp; done) | (simp; omega) | (simp at *; omega))).setCell ⟨w.heap.size, 1, none⟩ (.slice Na i nc) (by first | omega | (simp; done) | (simp; omega) | (simp at *; omega))).setCell ⟨w.heap.size, 2, none⟩ (.slice Aa i ac) (by first | omega | (simp; done) | (simp; omega) | (simp at *; omega))).weak (B' := w.heap.size) (by first | omega | (simp; done) | (simp; omega)))
      generalize (((w5.setCell ⟨w.heap.size, 0, none⟩ (.int .i64 n)).setCell ⟨w.heap.size, 1, none⟩ (.slice Na i nc)).setCell ⟨w.heap.size, 2, none⟩ (.slice Aa i ac)) = wz at *
      refine bodyPost_ret (v := .tuple #[machV n Na i nc Aa i ac, .int .i64 0]) (by simp [machV, results, Try.results43, go_sem, t0, t1, t2]) rfl ⟨HBz.out, .inl ⟨HOk.out, i, HF.out, .inr ⟨h64, Na, nc, Aa, ac, by rw [hnn], HMz.out⟩⟩⟩
  · have HNo := hid hn
    clear HZ
    go_enter Try.func43, Try.ntmps43
    go_wp2_with fail
    refine (rWithin_any n 1 6 _).mono ?_
    rintro e w1 ⟨rfl, rfl⟩
    by_cases g0 : 1 ≤ n ∧ n ≤ 6
    · rw [decide_eq_true g0]
      go_wp2_with fail
      refine (rWithin_any a 0 (n - 1) _).mono ?_
      rintro e w1 ⟨rfl, rfl⟩
      by_cases g1 : 0 ≤ a ∧ a ≤ (n - 1)
      · rw [decide_eq_true g1]
        go_wp2_with fail
        refine (rWithin_any b 0 (n - 1) _).mono ?_
        rintro e w1 ⟨rfl, rfl⟩
        have q2 : decide (0 ≤ b ∧ b ≤ (n - 1)) = false := decide_eq_false (by unfold nvOk at hn; omega)
        rw [q2]
        clear hn q2
        go_wp2
        refine bodyPost_ret (v := .tuple #[machV 0 none 0 0 none 0 0, .int .i64 1]) (by simp [machV, results, Try.results43, go_sem]) rfl ⟨HA.out, .inr ⟨HNo.out, rfl⟩⟩
      · rw [decide_eq_false g1]
        clear hn g1
        go_wp2
        refine bodyPost_ret (v := .tuple #[machV 0 none 0 0 none 0 0, .int .i64 1]) (by simp [machV, results, Try.results43, go_sem]) rfl ⟨HA.out, .inr ⟨HNo.out, rfl⟩⟩
    · rw [decide_eq_false g0]
      clear hn g0
      go_wp2
      refine bodyPost_ret (v := .tuple #[machV 0 none 0 0 none 0 0, .int .i64 1]) (by simp [machV, results, Try.results43, go_sem]) rfl ⟨HA.out, .inr ⟨HNo.out, rfl⟩⟩
set_option maxRecDepth 100000 in
set_option maxHeartbeats 4000000 in
theorem rLeast_any (n a b : Int) (w : World) : Calls Try.prog 45 #[.int .i64 n, .int .i64 a, .int .i64 b] w fun e w' => Below w.heap.size w w' ∧ ((tmOk n a b ∧ PlainAns w' w.heap.size n.toNat (leL n.toNat a b) e) ∨ (¬ tmOk n a b ∧ e = .returned (.tuple #[machV 0 none 0 0 none 0 0, .int .i64 1]))) := by
  have HA := hid (show Below w.heap.size w (w.alloc (.cells #[.int .i64 0, .slice none 0 0, .slice none 0 0] 25)) from (Below.refl _ _).alloc (Nat.le_refl _) _)
  have HZ := hid (fun wx (hb : Below (w.alloc (.cells #[.int .i64 0, .slice none 0 0, .slice none 0 0] 25)).heap.size (w.alloc (.cells #[.int .i64 0, .slice none 0 0, .slice none 0 0] 25)) wx) => show wx.cell? ⟨w.heap.size, 0, none⟩ = some (.int .i64 0) ∧ wx.cell? ⟨w.heap.size, 1, none⟩ = some (.slice none 0 0) ∧ wx.cell? ⟨w.heap.size, 2, none⟩ = some (.slice none 0 0) ∧ wx.frozen? ⟨w.heap.size, 0, none⟩ = false ∧ wx.frozen? ⟨w.heap.size, 1, none⟩ = false ∧ wx.frozen? ⟨w.heap.size, 2, none⟩ = false from
    ⟨by rw [hb.cell (by simp)]; go_simp, by rw [hb.cell (by simp)]; go_simp, by rw [hb.cell (by simp)]; go_simp, by rw [hb.frozen (by simp)]; go_simp, by rw [hb.frozen (by simp)]; go_simp, by rw [hb.frozen (by simp)]; go_simp⟩)
  by_cases hn : tmOk n a b
  · have HOk := hid hn
    have HP := hid (rMade_any n.toNat (by unfold tmOk at hn; omega) (by unfold tmOk at hn; omega) 1 a b (by decide) (w.alloc (.cells #[.int .i64 0, .slice none 0 0, .slice none 0 0] 25)))
    rw [ru_least n.toNat a b (by unfold tmOk at hn; omega)] at HP
    have hnn : ((n.toNat : Nat) : Int) = n := by unfold tmOk at hn; omega
    rw [hnn] at HP
    have KT := hid (fun wx => rCounted_any n a b wx)
    rw [if_pos hn] at KT
    clear hn
    go_enter Try.func45, Try.ntmps45
    go_wp2_with fail
    refine (KT.out _).mono ?_
    rintro e w1 ⟨rfl, rfl⟩
    go_wp2_with fail
    refine HP.out.mono ?_
    rintro e w5 ⟨hb5, i, hF, hans⟩
    obtain ⟨z0, z1, z2, y0, y1, y2⟩ := HZ.out w5 hb5
    have HB5 := hid (HA.out.trans (hb5.mono HA.out.size))
    have hsz : w.heap.size < w5.heap.size := cell_lt z0
    have HF := hid hF
    clear hb5 HZ HP hF
    rcases hans with ⟨h64, rfl⟩ | ⟨h64, Na, nc, Aa, ac, rfl, hM⟩
    · unfold machV
      go_wp2
      have t0 : (((w5.setCell ⟨w.heap.size, 0, none⟩ (.int .i64 0)).setCell ⟨w.heap.size, 1, none⟩ (.slice none 0 0)).setCell ⟨w.heap.size, 2, none⟩ (.slice none 0 0)).cell? ⟨w.heap.size, 0, none⟩ = some (.int .i64 0) := by go_simp
      have t1 : (((w5.setCell ⟨w.heap.size, 0, none⟩ (.int .i64 0)).setCell ⟨w.heap.size, 1, none⟩ (.slice none 0 0)).setCell ⟨w.heap.size, 2, none⟩ (.slice none 0 0)).cell? ⟨w.heap.size, 1, none⟩ = some (.slice none 0 0) := by go_simp
      have t2 : (((w5.setCell ⟨w.heap.size, 0, none⟩ (.int .i64 0)).setCell ⟨w.heap.size, 1, none⟩ (.slice none 0 0)).setCell ⟨w.heap.size, 2, none⟩ (.slice none 0 0)).cell? ⟨w.heap.size, 2, none⟩ = some (.slice none 0 0) := by go_simp
      have HBz := hid (((HB5.out.setCell (p := ⟨w.heap.size, 0, none⟩) (by simp) (.int .i64 0)).setCell (p := ⟨w.heap.size, 1, none⟩) (by simp) (.slice none 0 0)).setCell (p := ⟨w.heap.size, 2, none⟩) (by simp) (.slice none 0 0))
      generalize (((w5.setCell ⟨w.heap.size, 0, none⟩ (.int .i64 0)).setCell ⟨w.heap.size, 1, none⟩ (.slice none 0 0)).setCell ⟨w.heap.size, 2, none⟩ (.slice none 0 0)) = wz at *
      refine bodyPost_ret (v := .tuple #[machV 0 none 0 0 none 0 0, .int .i64 4]) (by simp [machV, results, Try.results45, go_sem, t0, t1, t2]) rfl ⟨HBz.out, .inl ⟨HOk.out, i, HF.out, .inl ⟨h64, rfl⟩⟩⟩
    · unfold machV
      rw [hnn]
      have HM := hid hM
      clear hM
      go_wp2
      have t0 : (((w5.setCell ⟨w.heap.size, 0, none⟩ (.int .i64 n)).setCell ⟨w.heap.size, 1, none⟩ (.slice Na i nc)).setCell ⟨w.heap.size, 2, none⟩ (.slice Aa i ac)).cell? ⟨w.heap.size, 0, none⟩ = some (.int .i64 n) := by go_simp
      have t1 : (((w5.setCell ⟨w.heap.size, 0, none⟩ (.int .i64 n)).setCell ⟨w.heap.size, 1, none⟩ (.slice Na i nc)).setCell ⟨w.heap.size, 2, none⟩ (.slice Aa i ac)).cell? ⟨w.heap.size, 1, none⟩ = some (.slice Na i nc) := by go_simp
      have t2 : (((w5.setCell ⟨w.heap.size, 0, none⟩ (.int .i64 n)).setCell ⟨w.heap.size, 1, none⟩ (.slice Na i nc)).setCell ⟨w.heap.size, 2, none⟩ (.slice Aa i ac)).cell? ⟨w.heap.size, 2, none⟩ = some (.slice Aa i ac) := by go_simp
      have HBz := hid (((HB5.out.setCell (p := ⟨w.heap.size, 0, none⟩) (by simp) (.int .i64 n)).setCell (p := ⟨w.heap.size, 1, none⟩) (by simp) (.slice Na i nc)).setCell (p := ⟨w.heap.size, 2, none⟩) (by simp) (.slice Aa i ac))
      have HMz := hid ((((HM.out.setCell ⟨w.heap.size, 0, none⟩ (.int .i64 n) (by first | omega | (simp; done) | (simp; omega) | (simp at *; omega))).setCell ⟨w.heap.size, 1, none⟩ (.slice Na i nc) (by first | omega | (simp; done) | (simp; omega) | (simp at *; omega))).setCell ⟨w.heap.size, 2, none⟩ (.slice Aa i ac) (by first | omega | (simp; done) | (simp; omega) | (simp at *; omega))).weak (B' := w.heap.size) (by first | omega | (simp; done) | (simp; omega)))
      generalize (((w5.setCell ⟨w.heap.size, 0, none⟩ (.int .i64 n)).setCell ⟨w.heap.size, 1, none⟩ (.slice Na i nc)).setCell ⟨w.heap.size, 2, none⟩ (.slice Aa i ac)) = wz at *
      refine bodyPost_ret (v := .tuple #[machV n Na i nc Aa i ac, .int .i64 0]) (by simp [machV, results, Try.results45, go_sem, t0, t1, t2]) rfl ⟨HBz.out, .inl ⟨HOk.out, i, HF.out, .inr ⟨h64, Na, nc, Aa, ac, by rw [hnn], HMz.out⟩⟩⟩
  · have HNo := hid hn
    clear HZ
    have KT := hid (fun wx => rCounted_any n a b wx)
    rw [if_neg hn] at KT
    clear hn
    go_enter Try.func45, Try.ntmps45
    go_wp2_with fail
    refine (KT.out _).mono ?_
    rintro e w1 ⟨rfl, rfl⟩
    go_wp2
    refine bodyPost_ret (v := .tuple #[machV 0 none 0 0 none 0 0, .int .i64 1]) (by simp [machV, results, Try.results45, go_sem]) rfl ⟨HA.out, .inr ⟨HNo.out, rfl⟩⟩
set_option maxRecDepth 100000 in
set_option maxHeartbeats 4000000 in
theorem rMost_any (n a b : Int) (w : World) : Calls Try.prog 47 #[.int .i64 n, .int .i64 a, .int .i64 b] w fun e w' => Below w.heap.size w w' ∧ ((tmOk n a b ∧ PlainAns w' w.heap.size n.toNat (moL n.toNat a b) e) ∨ (¬ tmOk n a b ∧ e = .returned (.tuple #[machV 0 none 0 0 none 0 0, .int .i64 1]))) := by
  have HA := hid (show Below w.heap.size w (w.alloc (.cells #[.int .i64 0, .slice none 0 0, .slice none 0 0] 25)) from (Below.refl _ _).alloc (Nat.le_refl _) _)
  have HZ := hid (fun wx (hb : Below (w.alloc (.cells #[.int .i64 0, .slice none 0 0, .slice none 0 0] 25)).heap.size (w.alloc (.cells #[.int .i64 0, .slice none 0 0, .slice none 0 0] 25)) wx) => show wx.cell? ⟨w.heap.size, 0, none⟩ = some (.int .i64 0) ∧ wx.cell? ⟨w.heap.size, 1, none⟩ = some (.slice none 0 0) ∧ wx.cell? ⟨w.heap.size, 2, none⟩ = some (.slice none 0 0) ∧ wx.frozen? ⟨w.heap.size, 0, none⟩ = false ∧ wx.frozen? ⟨w.heap.size, 1, none⟩ = false ∧ wx.frozen? ⟨w.heap.size, 2, none⟩ = false from
    ⟨by rw [hb.cell (by simp)]; go_simp, by rw [hb.cell (by simp)]; go_simp, by rw [hb.cell (by simp)]; go_simp, by rw [hb.frozen (by simp)]; go_simp, by rw [hb.frozen (by simp)]; go_simp, by rw [hb.frozen (by simp)]; go_simp⟩)
  by_cases hn : tmOk n a b
  · have HOk := hid hn
    have HP := hid (rMade_any n.toNat (by unfold tmOk at hn; omega) (by unfold tmOk at hn; omega) 2 a b (by decide) (w.alloc (.cells #[.int .i64 0, .slice none 0 0, .slice none 0 0] 25)))
    rw [ru_most n.toNat a b (by unfold tmOk at hn; omega)] at HP
    have hnn : ((n.toNat : Nat) : Int) = n := by unfold tmOk at hn; omega
    rw [hnn] at HP
    have KT := hid (fun wx => rCounted_any n a b wx)
    rw [if_pos hn] at KT
    clear hn
    go_enter Try.func47, Try.ntmps47
    go_wp2_with fail
    refine (KT.out _).mono ?_
    rintro e w1 ⟨rfl, rfl⟩
    go_wp2_with fail
    refine HP.out.mono ?_
    rintro e w5 ⟨hb5, i, hF, hans⟩
    obtain ⟨z0, z1, z2, y0, y1, y2⟩ := HZ.out w5 hb5
    have HB5 := hid (HA.out.trans (hb5.mono HA.out.size))
    have hsz : w.heap.size < w5.heap.size := cell_lt z0
    have HF := hid hF
    clear hb5 HZ HP hF
    rcases hans with ⟨h64, rfl⟩ | ⟨h64, Na, nc, Aa, ac, rfl, hM⟩
    · unfold machV
      go_wp2
      have t0 : (((w5.setCell ⟨w.heap.size, 0, none⟩ (.int .i64 0)).setCell ⟨w.heap.size, 1, none⟩ (.slice none 0 0)).setCell ⟨w.heap.size, 2, none⟩ (.slice none 0 0)).cell? ⟨w.heap.size, 0, none⟩ = some (.int .i64 0) := by go_simp
      have t1 : (((w5.setCell ⟨w.heap.size, 0, none⟩ (.int .i64 0)).setCell ⟨w.heap.size, 1, none⟩ (.slice none 0 0)).setCell ⟨w.heap.size, 2, none⟩ (.slice none 0 0)).cell? ⟨w.heap.size, 1, none⟩ = some (.slice none 0 0) := by go_simp
      have t2 : (((w5.setCell ⟨w.heap.size, 0, none⟩ (.int .i64 0)).setCell ⟨w.heap.size, 1, none⟩ (.slice none 0 0)).setCell ⟨w.heap.size, 2, none⟩ (.slice none 0 0)).cell? ⟨w.heap.size, 2, none⟩ = some (.slice none 0 0) := by go_simp
      have HBz := hid (((HB5.out.setCell (p := ⟨w.heap.size, 0, none⟩) (by simp) (.int .i64 0)).setCell (p := ⟨w.heap.size, 1, none⟩) (by simp) (.slice none 0 0)).setCell (p := ⟨w.heap.size, 2, none⟩) (by simp) (.slice none 0 0))
      generalize (((w5.setCell ⟨w.heap.size, 0, none⟩ (.int .i64 0)).setCell ⟨w.heap.size, 1, none⟩ (.slice none 0 0)).setCell ⟨w.heap.size, 2, none⟩ (.slice none 0 0)) = wz at *
      refine bodyPost_ret (v := .tuple #[machV 0 none 0 0 none 0 0, .int .i64 4]) (by simp [machV, results, Try.results47, go_sem, t0, t1, t2]) rfl ⟨HBz.out, .inl ⟨HOk.out, i, HF.out, .inl ⟨h64, rfl⟩⟩⟩
    · unfold machV
      rw [hnn]
      have HM := hid hM
      clear hM
      go_wp2
      have t0 : (((w5.setCell ⟨w.heap.size, 0, none⟩ (.int .i64 n)).setCell ⟨w.heap.size, 1, none⟩ (.slice Na i nc)).setCell ⟨w.heap.size, 2, none⟩ (.slice Aa i ac)).cell? ⟨w.heap.size, 0, none⟩ = some (.int .i64 n) := by go_simp
      have t1 : (((w5.setCell ⟨w.heap.size, 0, none⟩ (.int .i64 n)).setCell ⟨w.heap.size, 1, none⟩ (.slice Na i nc)).setCell ⟨w.heap.size, 2, none⟩ (.slice Aa i ac)).cell? ⟨w.heap.size, 1, none⟩ = some (.slice Na i nc) := by go_simp
      have t2 : (((w5.setCell ⟨w.heap.size, 0, none⟩ (.int .i64 n)).setCell ⟨w.heap.size, 1, none⟩ (.slice Na i nc)).setCell ⟨w.heap.size, 2, none⟩ (.slice Aa i ac)).cell? ⟨w.heap.size, 2, none⟩ = some (.slice Aa i ac) := by go_simp
      have HBz := hid (((HB5.out.setCell (p := ⟨w.heap.size, 0, none⟩) (by simp) (.int .i64 n)).setCell (p := ⟨w.heap.size, 1, none⟩) (by simp) (.slice Na i nc)).setCell (p := ⟨w.heap.size, 2, none⟩) (by simp) (.slice Aa i ac))
      have HMz := hid ((((HM.out.setCell ⟨w.heap.size, 0, none⟩ (.int .i64 n) (by first | omega | (simp; done) | (simp; omega) | (simp at *; omega))).setCell ⟨w.heap.size, 1, none⟩ (.slice Na i nc) (by first | omega | (simp; done) | (simp; omega) | (simp at *; omega))).setCell ⟨w.heap.size, 2, none⟩ (.slice Aa i ac) (by first | omega | (simp; done) | (simp; omega) | (simp at *; omega))).weak (B' := w.heap.size) (by first | omega | (simp; done) | (simp; omega)))
      generalize (((w5.setCell ⟨w.heap.size, 0, none⟩ (.int .i64 n)).setCell ⟨w.heap.size, 1, none⟩ (.slice Na i nc)).setCell ⟨w.heap.size, 2, none⟩ (.slice Aa i ac)) = wz at *
      refine bodyPost_ret (v := .tuple #[machV n Na i nc Aa i ac, .int .i64 0]) (by simp [machV, results, Try.results47, go_sem, t0, t1, t2]) rfl ⟨HBz.out, .inl ⟨HOk.out, i, HF.out, .inr ⟨h64, Na, nc, Aa, ac, by rw [hnn], HMz.out⟩⟩⟩
  · have HNo := hid hn
    clear HZ
    have KT := hid (fun wx => rCounted_any n a b wx)
    rw [if_neg hn] at KT
    clear hn
    go_enter Try.func47, Try.ntmps47
    go_wp2_with fail
    refine (KT.out _).mono ?_
    rintro e w1 ⟨rfl, rfl⟩
    go_wp2
    refine bodyPost_ret (v := .tuple #[machV 0 none 0 0 none 0 0, .int .i64 1]) (by simp [machV, results, Try.results47, go_sem]) rfl ⟨HA.out, .inr ⟨HNo.out, rfl⟩⟩
end Go.Proofs.Ytkboeldafppicaa
