/- Never of package menu: its contract. -/
import Derived.Test.YtkboeldafppicaaPlainS
import Derived.Test.YtkboeldafppicaaMAcc
import Derived.Test.YtkboeldafppicaaApartP
import Derived.Test.YtkboeldafppicaaMeanM
set_option linter.unusedVariables false
set_option linter.unusedSimpArgs false
namespace Go.Proofs.Ytkboeldafppicaa
open Go.RowKit Go.Maps

theorem nvP_next (a b s : Int) (c : Nat) (h : 0 ≤ s ∧ s ≤ 2) : 0 ≤ nvN a b s c ∧ nvN a b s c ≤ 2 := by
  unfold nvN; split
  · omega
  · split <;> omega
theorem small_bound (m : Nat) (l : List Int) (hn : l.Nodup) (h : ∀ s ∈ l, 0 ≤ s ∧ s ≤ (m : Int)) : l.length ≤ m + 1 := by
  refine coded_bound (fun s : Int => s.toNat) (m + 1) l hn (fun s hs => ?_) (fun s hs t ht e => ?_)
  · have := h s hs; omega
  · have := h s hs; have := h t ht; omega
set_option maxRecDepth 100000 in
set_option maxHeartbeats 1000000 in
theorem nvKeep_any (s : Int) (w : World) : Calls Try.prog 98 #[VI s] w fun e w' => Below w.heap.size w w' ∧ e = .returned (.bool (nvK s)) := by
  have hb := Below.refl w.heap.size w
  by_cases h : s = 2
  · have hq : (s != 2) = false := by simp [h]
    have hk := hid (show nvK s = false by simp [nvK, h])
    clear h
    unfold VI
    go_enter Try.func98, Try.ntmps98
    go_wp2
    go_ret
    exact ⟨hb, by rw [hk.out]; rfl⟩
  · have hq : (s != 2) = true := by simp [h]
    have hk := hid (show nvK s = true by simp [nvK, h])
    clear h
    unfold VI
    go_enter Try.func98, Try.ntmps98
    go_wp2
    go_ret
    exact ⟨hb, by rw [hk.out]; rfl⟩
set_option maxRecDepth 100000 in
set_option maxHeartbeats 2000000 in
theorem nvNext_any (s a b : Int) (c p q : Nat) (w : World) (hp : w.cell? ⟨p, 0, none⟩ = some (.int .i64 b)) (hq : w.cell? ⟨q, 0, none⟩ = some (.int .i64 a)) : Calls Try.prog 97 #[VI s, .int .i64 c, .pointer (some ⟨p, 0, none⟩), .pointer (some ⟨q, 0, none⟩)] w fun e w' => Below w.heap.size w w' ∧ e = .returned (VI (nvN a b s c)) := by
  have hb := hid (fun n => show Below w.heap.size w (w.drewN n) from ⟨(Below.refl w.heap.size w).os, (Below.refl w.heap.size w).tape, (Below.refl w.heap.size w).output, (Below.refl w.heap.size w).size, (Below.refl w.heap.size w).block⟩)
  by_cases h2 : s = 2
  · have E := hid (show nvN a b s c = 2 from if_pos (.inl h2))
    have q1 : (s == 2) = true := by simp [h2]
    clear h2
    unfold VI
    go_enter Try.func97, Try.ntmps97
    go_wp2_with fail
    try go_quiet (fail)
    go_wp2
    refine bodyPost_ret (v := VI 2) (by simp [VI, results, Try.results97, go_sem]) rfl ⟨by first | exact hb.out _ | exact (Below.refl _ _), by rw [E.out]; rfl⟩
  · have q1 : (s == 2) = false := by simp [h2]
    by_cases h1 : s = 1
    · have q2 : (s == 1) = true := by simp [h1]
      by_cases hcb : (c : Int) = b
      · have E := hid (show nvN a b s c = 2 from if_pos (.inr ⟨h1, hcb⟩))
        have q3 : ((c : Int) == b) = true := by simp [hcb]
        clear h2 h1 hcb
        unfold VI
        go_enter Try.func97, Try.ntmps97
        go_wp2_with fail
        try go_quiet (fail)
        go_wp2
        refine bodyPost_ret (v := VI 2) (by simp [VI, results, Try.results97, go_sem]) rfl ⟨by first | exact hb.out _ | exact (Below.refl _ _), by rw [E.out]; rfl⟩
      · have q3 : ((c : Int) == b) = false := by simp [hcb]
        by_cases hca : (c : Int) = a
        · have E := hid (show nvN a b s c = 1 from by unfold nvN; rw [if_neg (by rintro (e | e); exact h2 e; exact hcb e.2), if_pos hca])
          have q4 : ((c : Int) == a) = true := by simp [hca]
          clear h2 h1 hcb hca
          unfold VI
          go_enter Try.func97, Try.ntmps97
          go_wp2_with fail
          try go_quiet (fail)
          go_wp2
          refine bodyPost_ret (v := VI 1) (by simp [VI, results, Try.results97, go_sem]) rfl ⟨by first | exact hb.out _ | exact (Below.refl _ _), by rw [E.out]; rfl⟩
        · have E := hid (show nvN a b s c = 0 from by unfold nvN; rw [if_neg (by rintro (e | e); exact h2 e; exact hcb e.2), if_neg hca])
          have q4 : ((c : Int) == a) = false := by simp [hca]
          clear h2 h1 hcb hca
          unfold VI
          go_enter Try.func97, Try.ntmps97
          go_wp2_with fail
          try go_quiet (fail)
          go_wp2
          refine bodyPost_ret (v := VI 0) (by simp [VI, results, Try.results97, go_sem]) rfl ⟨by first | exact hb.out _ | exact (Below.refl _ _), by rw [E.out]; rfl⟩
    · have q2 : (s == 1) = false := by simp [h1]
      by_cases hca : (c : Int) = a
      · have E := hid (show nvN a b s c = 1 from by unfold nvN; rw [if_neg (by rintro (e | e); exact h2 e; exact h1 e.1), if_pos hca])
        have q4 : ((c : Int) == a) = true := by simp [hca]
        clear h2 h1 hca
        unfold VI
        go_enter Try.func97, Try.ntmps97
        go_wp2_with fail
        try go_quiet (fail)
        go_wp2
        refine bodyPost_ret (v := VI 1) (by simp [VI, results, Try.results97, go_sem]) rfl ⟨by first | exact hb.out _ | exact (Below.refl _ _), by rw [E.out]; rfl⟩
      · have E := hid (show nvN a b s c = 0 from by unfold nvN; rw [if_neg (by rintro (e | e); exact h2 e; exact h1 e.1), if_neg hca])
        have q4 : ((c : Int) == a) = false := by simp [hca]
        clear h2 h1 hca
        unfold VI
        go_enter Try.func97, Try.ntmps97
        go_wp2_with fail
        try go_quiet (fail)
        go_wp2
        refine bodyPost_ret (v := VI 0) (by simp [VI, results, Try.results97, go_sem]) rfl ⟨by first | exact hb.out _ | exact (Below.refl _ _), by rw [E.out]; rfl⟩
theorem egNv : (∀ args (w : World), (callFunc 97 args).run Try.prog w = .ok (.enter 97 args) w) ∧ (∀ args (w : World), (callFunc 98 args).run Try.prog w = .ok (.enter 98 args) w) := ⟨fun _ _ => by kernel_rfl, fun _ _ => by kernel_rfl⟩
/-- The language of Never. -/
noncomputable def nvL (n : Nat) (a b : Int) : Lang := langOf n (nvN a b) nvK 0
def nvOk (n a b : Int) : Prop := 1 ≤ n ∧ n ≤ 6 ∧ 0 ≤ a ∧ a < n ∧ 0 ≤ b ∧ b < n
instance (n a b : Int) : Decidable (nvOk n a b) := by unfold nvOk; infer_instance
set_option maxRecDepth 100000 in
set_option maxHeartbeats 4000000 in
theorem never_any (n a b : Int) (w : World) : Calls Try.prog 42 #[.int .i64 n, .int .i64 a, .int .i64 b] w fun e w' => Below w.heap.size w w' ∧ ((nvOk n a b ∧ PlainAns w' w.heap.size n.toNat (nvL n.toNat a b) e) ∨ (¬ nvOk n a b ∧ e = .returned (.tuple #[machV 0 none 0 0 none 0 0, .int .i64 1]))) := by
  have HA := hid (show Below w.heap.size w (((w.alloc (.cells #[.int .i64 a] 3)).alloc (.cells #[.int .i64 b] 3)).alloc (.cells #[.int .i64 0, .slice none 0 0, .slice none 0 0] 25)) from (((Below.refl _ _).alloc (Nat.le_refl _) _).alloc (by simp) _).alloc (by simp; omega) _)
  have c0 : (((w.alloc (.cells #[.int .i64 a] 3)).alloc (.cells #[.int .i64 b] 3)).alloc (.cells #[.int .i64 0, .slice none 0 0, .slice none 0 0] 25)).cell? ⟨w.heap.size, 0, none⟩ = some (.int .i64 a) := by go_simp
  have c1 : (((w.alloc (.cells #[.int .i64 a] 3)).alloc (.cells #[.int .i64 b] 3)).alloc (.cells #[.int .i64 0, .slice none 0 0, .slice none 0 0] 25)).cell? ⟨w.heap.size + 1, 0, none⟩ = some (.int .i64 b) := by go_simp
  have C0 := hid (And.intro c0 c1)
  have HP := hid (fun (h : nvOk n a b) => plainS_any n.toNat (by unfold nvOk at h; omega) (by unfold nvOk at h; omega) 0 (nvN a b) nvK (fun s => 0 ≤ s ∧ s ≤ 2) 3 97 98 #[] #[.pointer (some ⟨w.heap.size + 1, 0, none⟩), .pointer (some ⟨w.heap.size, 0, none⟩)] #[] #[] (((w.alloc (.cells #[.int .i64 a] 3)).alloc (.cells #[.int .i64 b] 3)).alloc (.cells #[.int .i64 0, .slice none 0 0, .slice none 0 0] 25))
    (by omega) (fun s c hs hc => nvP_next a b s c hs) (fun s hs => by unfold I64; omega) (fun l hn hl => small_bound 2 l hn hl) (by omega) egNv.1 egNv.2
    (fun w' s c hb hs hc => by
      have := nvNext_any s a b c (w.heap.size + 1) w.heap.size w' ((hb.cell (cell_lt C0.out.2)).trans C0.out.2) ((hb.cell (cell_lt C0.out.1)).trans C0.out.1)
      simpa using this)
    (fun w' s hb hs => by
      have := nvKeep_any s w'
      simpa using this))
  have HZ := hid (fun wx (hb : Below (((w.alloc (.cells #[.int .i64 a] 3)).alloc (.cells #[.int .i64 b] 3)).alloc (.cells #[.int .i64 0, .slice none 0 0, .slice none 0 0] 25)).heap.size (((w.alloc (.cells #[.int .i64 a] 3)).alloc (.cells #[.int .i64 b] 3)).alloc (.cells #[.int .i64 0, .slice none 0 0, .slice none 0 0] 25)) wx) => show wx.cell? ⟨w.heap.size + 2, 0, none⟩ = some (.int .i64 0) ∧ wx.cell? ⟨w.heap.size + 2, 1, none⟩ = some (.slice none 0 0) ∧ wx.cell? ⟨w.heap.size + 2, 2, none⟩ = some (.slice none 0 0) ∧ wx.frozen? ⟨w.heap.size + 2, 0, none⟩ = false ∧ wx.frozen? ⟨w.heap.size + 2, 1, none⟩ = false ∧ wx.frozen? ⟨w.heap.size + 2, 2, none⟩ = false from
    ⟨by rw [hb.cell (by simp)]; go_simp, by rw [hb.cell (by simp)]; go_simp, by rw [hb.cell (by simp)]; go_simp, by rw [hb.frozen (by simp)]; go_simp, by rw [hb.frozen (by simp)]; go_simp, by rw [hb.frozen (by simp)]; go_simp⟩)
  clear c0 c1
  by_cases hn : nvOk n a b
  · have HOk := hid hn
    have HP := hid (HP.out hn)
    have hnn : ((n.toNat : Nat) : Int) = n := by unfold nvOk at hn; omega
    rw [hnn] at HP
    have q1 : decide (1 ≤ n ∧ n ≤ 6) = true := by unfold nvOk at hn; simp; omega
    have q2 : decide (0 ≤ a ∧ a < n) = true := by unfold nvOk at hn; simp; omega
    have q3 : decide (0 ≤ b ∧ b < n) = true := by unfold nvOk at hn; simp; omega
    have K1 := hid (fun wx => mIsLetters_any n wx)
    have K2 := hid (fun wx => mIsBelow_any a n wx)
    have K3 := hid (fun wx => mIsBelow_any b n wx)
    rw [q1] at K1
    rw [q2] at K2
    rw [q3] at K3
    clear hn q1 q2 q3
    go_enter Try.func42, Try.ntmps42
    go_wp2_with fail
    refine (K1.out _).mono ?_
    rintro e w1 ⟨rfl, rfl⟩
    go_wp2_with fail
    refine (K2.out _).mono ?_
    rintro e w2 ⟨rfl, rfl⟩
    go_wp2_with fail
    refine (K3.out _).mono ?_
    rintro e w3 ⟨rfl, rfl⟩
    go_wp2_with fail
    refine HP.out.mono ?_
    rintro e w5 ⟨hb5, i, hF, hans⟩
    obtain ⟨z0, z1, z2, y0, y1, y2⟩ := HZ.out w5 hb5
    have HB5 := hid (HA.out.trans (hb5.mono HA.out.size))
    have hsz : w.heap.size + 2 < w5.heap.size := cell_lt z0
    have HF := hid hF
    clear hb5 HZ HP hF C0 K1 K2 K3
    rcases hans with ⟨h64, rfl⟩ | ⟨h64, Na, nc, Aa, ac, rfl, hM⟩
    · unfold machV
      go_wp2
      have t0 : (((w5.setCell ⟨w.heap.size + 2, 0, none⟩ (.int .i64 0)).setCell ⟨w.heap.size + 2, 1, none⟩ (.slice none 0 0)).setCell ⟨w.heap.size + 2, 2, none⟩ (.slice none 0 0)).cell? ⟨w.heap.size + 2, 0, none⟩ = some (.int .i64 0) := by go_simp
      have t1 : (((w5.setCell ⟨w.heap.size + 2, 0, none⟩ (.int .i64 0)).setCell ⟨w.heap.size + 2, 1, none⟩ (.slice none 0 0)).setCell ⟨w.heap.size + 2, 2, none⟩ (.slice none 0 0)).cell? ⟨w.heap.size + 2, 1, none⟩ = some (.slice none 0 0) := by go_simp
      have t2 : (((w5.setCell ⟨w.heap.size + 2, 0, none⟩ (.int .i64 0)).setCell ⟨w.heap.size + 2, 1, none⟩ (.slice none 0 0)).setCell ⟨w.heap.size + 2, 2, none⟩ (.slice none 0 0)).cell? ⟨w.heap.size + 2, 2, none⟩ = some (.slice none 0 0) := by go_simp
      have HBz := hid (((HB5.out.setCell (p := ⟨w.heap.size + 2, 0, none⟩) (by simp) (.int .i64 0)).setCell (p := ⟨w.heap.size + 2, 1, none⟩) (by simp) (.slice none 0 0)).setCell (p := ⟨w.heap.size + 2, 2, none⟩) (by simp) (.slice none 0 0))
      generalize (((w5.setCell ⟨w.heap.size + 2, 0, none⟩ (.int .i64 0)).setCell ⟨w.heap.size + 2, 1, none⟩ (.slice none 0 0)).setCell ⟨w.heap.size + 2, 2, none⟩ (.slice none 0 0)) = wz at *
      refine bodyPost_ret (v := .tuple #[machV 0 none 0 0 none 0 0, .int .i64 4]) (by simp [machV, results, Try.results42, go_sem, t0, t1, t2]) rfl ⟨HBz.out, .inl ⟨HOk.out, i, HF.out, .inl ⟨h64, rfl⟩⟩⟩
    · unfold machV
      rw [hnn]
      have HM := hid hM
      clear hM
      go_wp2
      have t0 : (((w5.setCell ⟨w.heap.size + 2, 0, none⟩ (.int .i64 n)).setCell ⟨w.heap.size + 2, 1, none⟩ (.slice Na i nc)).setCell ⟨w.heap.size + 2, 2, none⟩ (.slice Aa i ac)).cell? ⟨w.heap.size + 2, 0, none⟩ = some (.int .i64 n) := by go_simp
      have t1 : (((w5.setCell ⟨w.heap.size + 2, 0, none⟩ (.int .i64 n)).setCell ⟨w.heap.size + 2, 1, none⟩ (.slice Na i nc)).setCell ⟨w.heap.size + 2, 2, none⟩ (.slice Aa i ac)).cell? ⟨w.heap.size + 2, 1, none⟩ = some (.slice Na i nc) := by go_simp
      have t2 : (((w5.setCell ⟨w.heap.size + 2, 0, none⟩ (.int .i64 n)).setCell ⟨w.heap.size + 2, 1, none⟩ (.slice Na i nc)).setCell ⟨w.heap.size + 2, 2, none⟩ (.slice Aa i ac)).cell? ⟨w.heap.size + 2, 2, none⟩ = some (.slice Aa i ac) := by go_simp
      have HBz := hid (((HB5.out.setCell (p := ⟨w.heap.size + 2, 0, none⟩) (by simp) (.int .i64 n)).setCell (p := ⟨w.heap.size + 2, 1, none⟩) (by simp) (.slice Na i nc)).setCell (p := ⟨w.heap.size + 2, 2, none⟩) (by simp) (.slice Aa i ac))
      have HMz := hid ((((HM.out.setCell ⟨w.heap.size + 2, 0, none⟩ (.int .i64 n) (by first | omega | (simp; done) | (simp; omega) | (simp at *; omega))).setCell ⟨w.heap.size + 2, 1, none⟩ (.slice Na i nc) (by first | omega | (simp; done) | (simp; omega) | (simp at *; omega))).setCell ⟨w.heap.size + 2, 2, none⟩ (.slice Aa i ac) (by first | omega | (simp; done) | (simp; omega) | (simp at *; omega))).weak (B' := w.heap.size) (by first | omega | (simp; done) | (simp; omega)))
      generalize (((w5.setCell ⟨w.heap.size + 2, 0, none⟩ (.int .i64 n)).setCell ⟨w.heap.size + 2, 1, none⟩ (.slice Na i nc)).setCell ⟨w.heap.size + 2, 2, none⟩ (.slice Aa i ac)) = wz at *
      refine bodyPost_ret (v := .tuple #[machV n Na i nc Aa i ac, .int .i64 0]) (by simp [machV, results, Try.results42, go_sem, t0, t1, t2]) rfl ⟨HBz.out, .inl ⟨HOk.out, i, HF.out, .inr ⟨h64, Na, nc, Aa, ac, by rw [hnn], HMz.out⟩⟩⟩
  · have HNo := hid hn
    clear HP HZ C0
    go_enter Try.func42, Try.ntmps42
    go_wp2_with fail
    refine (mIsLetters_any n _).mono ?_
    rintro e w1 ⟨rfl, rfl⟩
    cases q1 : decide (1 ≤ n ∧ n ≤ 6) with
    | false =>
      clear hn q1
      go_wp2
      refine bodyPost_ret (v := .tuple #[machV 0 none 0 0 none 0 0, .int .i64 1]) (by simp [machV, results, Try.results42, go_sem]) rfl ⟨HA.out, .inr ⟨HNo.out, rfl⟩⟩
    | true =>
      go_wp2_with fail
      refine (mIsBelow_any a n _).mono ?_
      rintro e w1 ⟨rfl, rfl⟩
      cases q2 : decide (0 ≤ a ∧ a < n) with
      | false =>
        clear hn q1 q2
        go_wp2
        refine bodyPost_ret (v := .tuple #[machV 0 none 0 0 none 0 0, .int .i64 1]) (by simp [machV, results, Try.results42, go_sem]) rfl ⟨HA.out, .inr ⟨HNo.out, rfl⟩⟩
      | true =>
        go_wp2_with fail
        refine (mIsBelow_any b n _).mono ?_
        rintro e w1 ⟨rfl, rfl⟩
        have q3 : decide (0 ≤ b ∧ b < n) = false := by
          simp at q1 q2 ⊢
          unfold nvOk at hn
          omega
        rw [q3]
        clear hn q1 q2 q3
        go_wp2
        refine bodyPost_ret (v := .tuple #[machV 0 none 0 0 none 0 0, .int .i64 1]) (by simp [machV, results, Try.results42, go_sem]) rfl ⟨HA.out, .inr ⟨HNo.out, rfl⟩⟩
end Go.Proofs.Ytkboeldafppicaa
