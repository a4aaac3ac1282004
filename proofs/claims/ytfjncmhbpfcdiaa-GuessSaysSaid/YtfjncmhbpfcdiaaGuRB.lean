/- The document's own Said and Errors. -/
import Derived.Test.YtfjncmhbpfcdiaaGuRA
set_option linter.unusedVariables false
namespace Go.Proofs.Ytfjncmhbpfcdiaa
open Go.RowKit

theorem new_cellG (w : World) (n : Nat) (v : Value) (t : TypeId) : ((w.drewN n).alloc (.cells #[v] t)).cell? ⟨w.heap.size, 0, none⟩ = some v := by
  have : ((w.drewN n).alloc (.cells #[v] t)).heap[w.heap.size]? = some (.cells #[v] t) := heap_alloc_new (w.drewN n) _
  unfold World.cell?
  dsimp only
  rw [this]
  rfl
set_option maxRecDepth 100000 in
set_option maxHeartbeats 2000000 in
theorem grSaid_any (a : Option Addr) (g : List Rnd) (cap : Nat) (w : World) (h : GameAt w a g) (hcap : g.length ≤ cap) : Calls Try.prog 28 #[.slice a g.length cap] w (SaidR w (saidV g)) := by
  obtain ⟨i0, hinf, hz0, hz1, hz2⟩ := info_parts gbool_info
  have hlen := h.len
  have HV := hid (grValidate_any a g cap w h)
  have HE := hid (show saidV g = if gameE g = 0 then (saidL 16777216 g g.length, 0) else ([], gameE g) from rfl)
  by_cases h0 : gameE g = 0
  · have HE2 := hid ((HE.out).trans (if_pos h0))
    have hg := gameE_ok h0
    rw [h0] at HV
    have HL := hid (saidL_len 16777216 g)
    have hl24 := hg.len
    have HH := hid h
    have HG := hid hg
    clear h h0 hg HE
    go_enter Try.func28, Try.ntmps28
    go_wp2_with fail
    refine HV.out.mono ?_
    rintro e w1 ⟨rfl, rfl⟩
    go_wp2
    go_loopw [5, 6] (fun o i wr => ∃ (k : Nat), k ≤ g.length ∧ i = .int .i64 k ∧ Hid (OwnM wr w.heap.size o (saidL 16777216 g k)) ∧ Below w.heap.size w wr) (fun _ i _ => g.length - (intOf i).toNat)
    case atStart => exact ⟨0, Nat.zero_le _, rfl, ⟨rfl, .inl ⟨rfl, rfl⟩⟩, Below.refl _ _⟩
    case round =>
      obtain ⟨k, hk, rfl, HO, hB⟩ := hrel
      by_cases hlt : k < g.length
      · rcases HH.out.at_ with e | ⟨b, off, rfl, hc⟩
        · rw [e] at hlt; simp at hlt
        obtain ⟨A, c, c0, _, s0⟩ := hc k hlt
        have hbl := cell_lt c0
        dsimp only at hbl
        have had := HG.out.adv k hlt
        have HSy := hid (fun W (hb : Below w.heap.size w W) => (show Calls Try.prog 53 #[.slice (some ⟨b, off, none⟩) k cap, .slice A (rAt g k).1.length c] W (DrwS W (saidN 16777216 g k)) from by
          have hlk : (g.take k).length = k := by simp; omega
          have := grSays_any (some ⟨b, off, none⟩) A (g.take k) (rAt g k).1 cap c W ((HH.out.below hb).take k hk) (s0.below hb) (by omega) (by omega) (fun i hi => by rw [rAt_take g k i (by omega), had.1, (HG.out.adv i (by omega)).1]; exact Nat.le_refl _)
          rw [hlk, sayN_take 16777216 g (rAt g k).1 k k (Nat.le_refl _)] at this
          exact this))
        have c0 : wr.cell? ⟨b, off + k * 2, none⟩ = some (.slice A (rAt g k).1.length c) := by rw [hB.cell (p := ⟨b, off + k * 2, none⟩) hbl]; exact c0
        have HLk := hid (HL.out k)
        have HN := hid (show saidL 16777216 g (k + 1) = saidL 16777216 g k ++ [saidN 16777216 g k] from rfl)
        have i0' : (0 : Int) ≤ (k : Int) := by omega
        have i1 : (k : Int) < (g.length : Int) := by omega
        have i2 : (k : Int) ≤ (cap : Int) := by omega
        have i3 : k ≤ cap := by omega
        clear hc s0 had
        generalize (rAt g k).1 = r at *
        generalize saidN 16777216 g k = sd at *
        generalize saidL 16777216 g k = ls at *
        have hO := HO.out
        unfold OwnM at hO
        rw [HLk.out] at hO
        have HOk := hid (fun W (hb : Below wr.heap.size wr W) => own_below hO hb)
        have HRow := hid (fun q hq => (hO.lt q hq).1)
        have HKp := hid (fun (w' : World) (hb : Below w.heap.size wr w') => (show w'.cell? ⟨b, off + k * 2, none⟩ = some (.slice A r.length c) ∧ Below w.heap.size wr w' from ⟨by rw [hb.cell (p := ⟨b, off + k * 2, none⟩) hbl]; exact c0, hb⟩))
        have HSz := hid (fun W (hb : Below w.heap.size wr W) => HSy.out W (hB.trans hb))
        have hr : Below wr.heap.size wr wr := Below.refl _ _
        have hr1 : Below w.heap.size wr wr := Below.refl _ _
        have hsz := hB.size
        clear hO HSy
        go_wp2_with fail
        go_region_held3 (fun w' => w'.cell? ⟨b, off + k * 2, none⟩ = some (.slice A r.length c) ∧ Below w.heap.size wr w')
          ((refine HKp.out _ ?_; repeat (first | exact hr1 | assumption | apply Below.drew | apply below_drewN | (refine Below.alloc ?_ (by first | omega | (simp; done) | (simp; omega)) _))))
          (first
            | (go_at_call 53; refine (HSz.out _ (by first | exact hr1.drew | exact hr1 | assumption)).mono ?_; rintro en w4 ⟨n4, rfl, rfl⟩)
            | (refine step_append_own (by rfl) _ _ 36 (by rfl) w.heap.size 4 i0 (.bool false) 1 1 Try.underlying36 hinf hz0 hz1 hz2 rfl (by decide) _ k (mcells ls) (by rfl) (HOk.out _ (by repeat (first | exact hr | assumption | apply Below.drew | apply below_drewN | (refine Below.alloc ?_ (by first | omega | (simp; done) | (simp; omega)) _)))) ⟨wr.heap.size, 0, none⟩ 1 1 [.bool sd] (by rfl) (by rfl) (by intro j u hu; cases j with | zero => (simp at hu; subst hu; first | exact new_cellG _ _ _ _ | (go_simp; done)) | succ j => simp at hu) (by simp [Value.oneCell']) (by unfold maxLen; omega) (by omega) (by first | omega | (simp; omega) | (simp <;> omega)) ?_; intro v6 w6 hown6 hgrow6; have p6 : Below w.heap.size wr w6 := Below.grown (by repeat (first | exact hr1 | assumption | apply Below.drew | apply below_drewN | (refine Below.alloc ?_ (by first | omega | (simp; done) | (simp; omega)) _))) hgrow6 (by first | omega | (simp; omega) | (simp <;> omega)) HRow.out))
        have HO6 : Hid (OwnM w6 w.heap.size v6 (saidL 16777216 g (k + 1))) := by
          unfold Hid OwnM
          rw [HN.out, mcells_snoc, List.length_append, HLk.out]
          exact hown6
        have hB6 := hB.trans p6
        clear hown6 hgrow6 p6 HSz HKp HOk HRow hr hr1
        go_wp2
        go_roundw
        case rel => exact ⟨k + 1, by omega, by go_num, HO6, hB6⟩
        case measure => simp [intOf]; omega
      · obtain rfl : k = g.length := by omega
        have hl := HL.out g.length
        obtain ⟨A2, c2, rfl, hm2⟩ := HO.out.marks (by omega)
        have HM := hid hm2
        clear hm2
        rw [hl]
        go_wp2
        go_ret2
        exact ⟨hB, A2, c2, by rw [HE2.out]; dsimp only; rw [hl]; rfl, by rw [HE2.out]; exact HM.out⟩
  · have HE2 := hid ((HE.out).trans (if_neg h0))
    have h1 : (gameE g != 0) = true := by simp [h0]
    clear h h0 HE
    generalize gameE g = v at *
    go_enter Try.func28, Try.ntmps28
    go_wp2_with fail
    refine HV.out.mono ?_
    rintro e w1 ⟨rfl, rfl⟩
    go_wp2
    go_ret2
    exact ⟨Below.refl _ _, none, 0, by rw [HE2.out]; rfl, by rw [HE2.out]; exact ⟨by simp, .inl rfl⟩⟩

set_option maxRecDepth 100000 in
set_option maxHeartbeats 2000000 in
theorem grErrors_any (a : Option Addr) (g : List Rnd) (cap : Nat) (w : World) (h : GameAt w a g) (hcap : g.length ≤ cap) : Calls Try.prog 30 #[.slice a g.length cap] w (BelP w (errsV g)) := by
  have hlen := h.len
  have HV := hid (grSaid_any a g cap w h hcap)
  have HE := hid (show errsV g = if gameE g = 0 then ((errN 16777216 g g.length : Int), 0) else (0, gameE g) from rfl)
  have HS := hid (show saidV g = if gameE g = 0 then (saidL 16777216 g g.length, 0) else ([], gameE g) from rfl)
  by_cases h0 : gameE g = 0
  · have HE2 := hid ((HE.out).trans (if_pos h0))
    have HS2 := hid ((HS.out).trans (if_pos h0))
    have hl24 := (gameE_ok h0).len
    have HH := hid h
    have HW0 := hid (fun k => errN_le 16777216 g k)
    have HLn := hid (saidL_len 16777216 g g.length)
    have HSa := hid (fun k (hk : k < g.length) => saidL_at 16777216 g g.length k hk)
    have HSn := hid (show ∀ k, errN 16777216 g (k + 1) = errN 16777216 g k + if saidN 16777216 g k = (rAt g k).2 then 0 else 1 from fun k => rfl)
    rw [HS2.out] at HV
    clear h h0 HE HS HS2
    go_enter Try.func30, Try.ntmps30
    go_wp2_with fail
    refine HV.out.mono ?_
    rintro e w1 ⟨hB1, A, c, rfl, hm1⟩
    have HM1 := hid hm1
    have HB1 := hid hB1
    have hln := HLn.out
    clear hm1 hB1
    dsimp only
    rw [HLn.out]
    go_wp2
    go_loopw [6, 7] (fun t i wr => ∃ (k : Nat), k ≤ g.length ∧ i = .int .i64 k ∧ t = .int .i64 (errN 16777216 g k) ∧ Hid (∃ n, wr = w1.drewN n)) (fun _ i _ => g.length - (intOf i).toNat)
    case atStart => exact ⟨0, Nat.zero_le _, rfl, rfl, ⟨0, rfl⟩⟩
    case round =>
      obtain ⟨k, hk, rfl, rfl, HW⟩ := hrel
      have hwk := HW0.out k
      by_cases hlt : k < g.length
      · have HG : Hid (GameAt wr a g) := by obtain ⟨n, e⟩ := HW.out; rw [e]; exact (HH.out.below HB1.out).drew n
        have HMr : Hid (Marks wr A (saidL 16777216 g g.length)) := by obtain ⟨n, e⟩ := HW.out; rw [e]; exact HM1.out.below (below_drewN (Below.refl _ _) n)
        rcases HG.out.at_ with e | ⟨b, off, rfl, hc⟩
        · rw [e] at hlt; simp at hlt
        obtain ⟨A1, c1, _, c2, _⟩ := hc k hlt
        rcases HMr.out.at_ with e | ⟨b2, off2, rfl, hm⟩
        · rw [e] at hln; simp at hln; omega
        have c3 := hm k (by omega)
        rw [HSa.out k hlt] at c3
        have HN := hid (HSn.out k)
        have i0 : (0 : Int) ≤ (k : Int) := by omega
        have i1 : (k : Int) < (g.length : Int) := by omega
        clear hc hm hln
        generalize saidN 16777216 g k = p at *
        generalize (rAt g k).2 = q at *
        generalize hen : errN 16777216 g k = v at *
        clear hen
        cases hpq : (p == q) with
        | false =>
          have hne : p ≠ q := by simpa using hpq
          have HN := hid ((HN.out).trans (by rw [if_neg hne] : _ = v + 1))
          clear hne
          go_wp2_with fail
          go_quiet (fail)
          go_wp2
          go_roundw
          case rel => exact ⟨k + 1, by omega, by go_num, by rw [HN.out]; go_num, by obtain ⟨n, e⟩ := HW.out; exact ⟨n + nq, by rw [e, World.drewN_drewN]⟩⟩
          case measure => simp [intOf]; omega
        | true =>
          have hne : p = q := by simpa using hpq
          have HN := hid ((HN.out).trans (by rw [if_pos hne, Nat.add_zero] : _ = v))
          clear hne
          go_wp2_with fail
          go_quiet (fail)
          go_wp2
          go_roundw
          case rel => exact ⟨k + 1, by omega, by go_num, by rw [HN.out], by obtain ⟨n, e⟩ := HW.out; exact ⟨n + nq, by rw [e, World.drewN_drewN]⟩⟩
          case measure => simp [intOf]; omega
      · obtain rfl : k = g.length := by omega
        go_wp2
        go_ret2
        obtain ⟨n, e⟩ := HW.out
        exact ⟨by rw [e]; exact below_drewN HB1.out n, by rw [HE2.out]; rfl⟩
  · have HE2 := hid ((HE.out).trans (if_neg h0))
    have HS2 := hid ((HS.out).trans (if_neg h0))
    rw [HS2.out] at HV
    clear h h0 HE HS HS2
    generalize gameE g = v at *
    go_enter Try.func30, Try.ntmps30
    go_wp2_with fail
    refine HV.out.mono ?_
    rintro e w1 ⟨hB1, A, c, rfl, hm1⟩
    have HB1 := hid hB1
    clear hm1 hB1
    go_wp2
    refine wp_loop_rounds 1 ?_
    rw [rounds_succ]
    go_wp2
    go_ret2
    exact ⟨HB1.out, by rw [HE2.out]; rfl⟩
end Go.Proofs.Ytfjncmhbpfcdiaa
