/- The walk of the law GuessSmooths. -/
import Derived.Test.YtfjncmhbpfcdiabGuSr
import Derived.Test.YtfjncmhbpfcdiabOpenI
set_option linter.unusedVariables false
namespace Go.Proofs.Ytfjncmhbpfcdiab
open Go.RowKit

section
open Go.ChangeShapes Go.WideShapes Go.ChangeAt Go.RowKit Go.Joins
theorem open_intsC_at {H : Type} {enc : TypeId × Value → H} {W : World} {n : Nat} {v : Value} {y : DataW H × List MemPlace}
    (h : DataW.trod enc Try.prog W 0 (fun _ => true) true n 32 [v] = some y) :
    ∃ (a : Option Addr) (xs : List Int) (cap : Nat), v = .slice a xs.length cap ∧ xs.length ≤ 9223372036854775807 ∧ (xs.length ≤ 140737488355328 → Ints W a xs) ∧ xs.length ≤ cap := by
  rcases open_ints Try.underlying32 Try.underlying3 (by kernel_rfl) h with ⟨hcs, _⟩ | ⟨a, len, cap, zs, hcs, _, hl, hm, hz, _, hcell, hwz⟩
  · simp at hcs
    exact ⟨none, [], 0, hcs, by simp, fun _ => ⟨by simp, .inl rfl, by simp⟩, by simp⟩
  · simp at hcs hz
    have hlen : (zs.take len).length = len := by simp; omega
    unfold maxLen at hm
    refine ⟨some a, zs.take len, cap, by rw [hlen, hcs], by omega, fun hb => ⟨hb, ?_, ?_⟩, by omega⟩
    · by_cases h0 : len = 0
      · left; subst h0; simp
      · right
        obtain ⟨b, off, spot⟩ := a
        have hc := hcell 0 (by omega)
        have hspot : spot = none := by simpa [Addr.add] using World.cell?_spot hc
        subst hspot
        refine ⟨b, off, rfl, fun i hi => ?_⟩
        have e : (⟨b, off, none⟩ : Addr).add i = ⟨b, off + i, none⟩ := by
          unfold Addr.add; split
          · simp_all
          · rfl
        have := hcell i (by omega)
        rw [e] at this
        rw [this, List.getElem?_take_of_lt (by omega)]
        simp
    · intro x hx
      exact wf_i64 (hwz x (List.mem_of_mem_take hx))
set_option maxRecDepth 100000 in
theorem open_intsC {H : Type} {enc : TypeId × Value → H} {W : World} {r : Reach} {b0 : Nat} {v : Value} {d : DataW H} {p : List MemPlace} (hv : Value.okWide Try.prog W r b0 32 v)
    (h : DataW.Trod enc Try.prog W 0 (fun _ => true) true 32 v d p) :
    ∃ (a : Option Addr) (xs : List Int) (cap : Nat), v = .slice a xs.length cap ∧ xs.length ≤ 9223372036854775807 ∧ (xs.length ≤ 140737488355328 → Ints W a xs) ∧ xs.length ≤ cap := by
  obtain ⟨a0, len0, cap0, rfl⟩ := okWide_slice Try.underlying32 hv
  obtain ⟨fuel, hf⟩ := h
  simp only [Value.cells] at hf
  exact open_intsC_at hf
end
theorem rat_out {w : World} {x y e : Int} {en : Ending} {w' : World} (h : RatE w ((x, y), e) en w') : Below w.heap.size w w' ∧ en = .returned (.tuple #[.agg #[.int .i64 x, .int .i64 y], .int .i64 e]) := h
/-- What Smooth answers: an error, or numbers between the smallest and the greatest one. -/
theorem smooth_cases (l : List Int) (num den : Int) : (∃ x y e, smoothV l num den = ((x, y), e) ∧ e ≠ 0) ∨ (0 < l.length ∧ l.length ≤ 8 ∧ (∀ j, j < l.length → cAt l j = (cN l j : Int) ∧ cN l j ≤ 1000000) ∧ ∃ s p : Nat, smoothV l num den = (((s : Int), (p : Int)), 0) ∧ p ≤ 10000000 ∧
    (∀ m : Nat, (∀ j, j < l.length → m ≤ cN l j) → m * p ≤ s) ∧ (∀ m : Nat, (∀ j, j < l.length → cN l j ≤ m) → s ≤ m * p)) := by
  unfold smoothV
  by_cases h : smB l num den = true
  · rw [if_pos h]
    obtain ⟨hall, hpos, hd9, hn9⟩ := smB_ok h
    by_cases h8 : 8 < l.length
    · rw [if_pos h8]; exact .inl ⟨_, _, _, rfl, by decide⟩
    · rw [if_neg h8]
      have hle : num.toNat ≤ den.toNat := by omega
      have hp7 := pow_den (den := den.toNat) (k := l.length - 1) (by omega) (by omega)
      refine .inr ⟨hpos, by omega, fun j hj => by have := hall j hj; unfold cN; omega, _, _, rfl, Nat.le_trans (Nat.div_le_self _ _) hp7, fun m hm => ?_, fun m hm => ?_⟩
      · exact low_frac (smN_ge l num.toNat den.toNat m hle (l.length - 1) fun j hj => hm j (by omega))
      · exact high_frac (smN_le l num.toNat den.toNat m hle (l.length - 1) fun j hj => hm j (by omega))
  · rw [if_neg h]; exact .inl ⟨_, _, _, rfl, by decide⟩
set_option maxRecDepth 100000 in
set_option maxHeartbeats 4000000 in
theorem guessSmooths_walk (a : Option Addr) (l : List Int) (cap : Nat) (num den : Int) (w : World) (h0 : l.length ≤ 9223372036854775807) (h : l.length ≤ 140737488355328 → Ints w a l) (hcap : l.length ≤ cap) (bn : -9223372036854775808 ≤ num ∧ num ≤ 9223372036854775807) (bd : -9223372036854775808 ≤ den ∧ den ≤ 9223372036854775807) :
  Calls Try.prog 5 #[.slice a l.length cap, .int .i64 num, .int .i64 den] w (BoolR w true) := by
  by_cases hl : 100 < l.length
  · have hl' : (100 : Int) < (l.length : Int) := by omega
    clear h hl
    go_enter Try.func5, Try.ntmps5
    go_wp2_with fail
    refine (known6_any _).mono ?_
    rintro e wz ⟨hb, rfl⟩
    go_wp2
    go_ret
    exact ⟨hb, rfl⟩
  · have hl' : (l.length : Int) ≤ 100 := by omega
    have hI := h (by omega)
    have H1 := hid (gSmooth_any a l cap num den w hI hcap)
    have H2 := hid (fun W (hb : Below w.heap.size w W) => grSmooth_any a l cap num den W (hI.below hb))
    have HI := hid hI
    rcases smooth_cases l num den with ⟨x, y, ee, he, hne⟩ | ⟨hpos, h8, hcN, s, p, he, hp, hlo, hhi⟩
    · rw [he] at H1 H2
      have H1 := hid (H1.out.mono fun _ _ hh => rat_out hh)
      have H2 := hid (fun W hb => (H2.out W hb).mono fun _ _ hh => rat_out hh)
      have h1 : (ee != 0) = true := by simp [hne]
      have h2 : ¬ ee = 0 := hne
      clear h hl hI he hne
      go_enter Try.func5, Try.ntmps5
      go_wp2_with fail
      refine H1.out.mono ?_
      rintro e w1 ⟨q1, rfl⟩
      have P1 := hid (q1.alloc q1.size (.cells #[.int .i64 x, .int .i64 y] 28))
      have x0 : (w1.alloc (.cells #[.int .i64 x, .int .i64 y] 28)).cell? ⟨w1.heap.size, 0, none⟩ = some (.int .i64 x) := by go_simp
      have x1 : (w1.alloc (.cells #[.int .i64 x, .int .i64 y] 28)).cell? ⟨w1.heap.size, 1, none⟩ = some (.int .i64 y) := by go_simp
      have X0 := hid x0
      have X1 := hid x1
      clear q1 x0 x1
      go_wp2_with fail
      refine (H2.out _ P1.out).mono ?_
      rintro e w2 ⟨q2, rfl⟩
      have P2 := hid (P1.out.trans (q2.mono P1.out.size))
      have b0 : w2.cell? ⟨w1.heap.size, 0, none⟩ = some (.int .i64 x) := by rw [q2.cell (cell_lt X0.out)]; exact X0.out
      have b1 : w2.cell? ⟨w1.heap.size, 1, none⟩ = some (.int .i64 y) := by rw [q2.cell (cell_lt X1.out)]; exact X1.out
      have hzz : w1.heap.size < w2.heap.size := by have := q2.size; simp at this; omega
      clear q2
      go_wp2_with fail
      refine (known6_any _).mono ?_
      rintro e wz ⟨hb, rfl⟩
      have PZ := hid ((P2.out.alloc P2.out.size _).trans (hb.mono (by have := P2.out.size; simp; omega)))
      clear hb
      go_wp2
      go_ret
      exact ⟨PZ.out, rfl⟩
    · rw [he] at H1 H2
      have H1 := hid (H1.out.mono fun _ _ hh => rat_out hh)
      have H2 := hid (fun W hb => (H2.out W hb).mono fun _ _ hh => rat_out hh)
      rcases hI.at_ with e | ⟨b, off, rfl, hc⟩
      · rw [e] at hpos; simp at hpos
      have hbl := cell_lt (hc 0 hpos)
      dsimp only at hbl
      have HC := hid (fun j (hj : j < l.length) => (show w.cell? ⟨b, off + j, none⟩ = some (.int .i64 (cN l j : Int)) from by rw [← (hcN j hj).1]; exact hc j hj))
      have HN := hid (fun j hj => (hcN j hj).2)
      have HLo := hid hlo
      have HHi := hid hhi
      have hp1 : (1 : Int) ≤ (l.length : Int) := by omega
      have hp8 : (l.length : Int) ≤ 8 := by omega
      clear h hl hI he hc hcN hlo hhi
      go_enter Try.func5, Try.ntmps5
      go_wp2_with fail
      refine H1.out.mono ?_
      rintro e w1 ⟨q1, rfl⟩
      have P1 := hid (q1.alloc q1.size (.cells #[.int .i64 (s : Int), .int .i64 (p : Int)] 28))
      have x0 : (w1.alloc (.cells #[.int .i64 (s : Int), .int .i64 (p : Int)] 28)).cell? ⟨w1.heap.size, 0, none⟩ = some (.int .i64 (s : Int)) := by go_simp
      have x1 : (w1.alloc (.cells #[.int .i64 (s : Int), .int .i64 (p : Int)] 28)).cell? ⟨w1.heap.size, 1, none⟩ = some (.int .i64 (p : Int)) := by go_simp
      have X0 := hid x0
      have X1 := hid x1
      clear q1 x0 x1
      go_wp2_with fail
      refine (H2.out _ P1.out).mono ?_
      rintro e w2 ⟨q2, rfl⟩
      have P2 := hid (P1.out.trans (q2.mono P1.out.size))
      have b0 : w2.cell? ⟨w1.heap.size, 0, none⟩ = some (.int .i64 (s : Int)) := by rw [q2.cell (cell_lt X0.out)]; exact X0.out
      have b1 : w2.cell? ⟨w1.heap.size, 1, none⟩ = some (.int .i64 (p : Int)) := by rw [q2.cell (cell_lt X1.out)]; exact X1.out
      have hzz : w1.heap.size < w2.heap.size := by have := q2.size; simp at this; omega
      clear q2
      have P3 := hid (P2.out.alloc P2.out.size (.cells #[.int .i64 (s : Int), .int .i64 (p : Int)] 28))
      have k0 : (w2.alloc (.cells #[.int .i64 (s : Int), .int .i64 (p : Int)] 28)).cell? ⟨b, off, none⟩ = some (.int .i64 (cN l 0 : Int)) := by rw [P3.out.cell (p := ⟨b, off, none⟩) hbl]; have := HC.out 0 hpos; rw [Nat.add_zero] at this; exact this
      have hn0 := HN.out 0 hpos
      have y0 : (w2.alloc (.cells #[.int .i64 (s : Int), .int .i64 (p : Int)] 28)).cell? ⟨w1.heap.size, 0, none⟩ = some (.int .i64 (s : Int)) := by rw [← b0]; exact World.cell?_alloc_lt _ _ _ hzz
      have y1 : (w2.alloc (.cells #[.int .i64 (s : Int), .int .i64 (p : Int)] 28)).cell? ⟨w1.heap.size, 1, none⟩ = some (.int .i64 (p : Int)) := by rw [← b1]; exact World.cell?_alloc_lt _ _ _ hzz
      have Y0 := hid y0
      have Y1 := hid y1
      clear y0 y1
      go_wp2_with fail
      go_quiet (fail)
      have z0 : (w2.alloc (.cells #[.int .i64 (s : Int), .int .i64 (p : Int)] 28) |>.drewN nq).cell? ⟨w1.heap.size, 0, none⟩ = some (.int .i64 (s : Int)) := Y0.out
      have z1 : (w2.alloc (.cells #[.int .i64 (s : Int), .int .i64 (p : Int)] 28) |>.drewN nq).cell? ⟨w1.heap.size, 1, none⟩ = some (.int .i64 (p : Int)) := Y1.out
      have P4 := hid (below_drewN P3.out nq)
      generalize hwd : (w2.alloc (.cells #[.int .i64 (s : Int), .int .i64 (p : Int)] 28) |>.drewN nq) = w4 at *
      clear hwd b0 b1 hzz Y0 Y1 P3 hn0 k0
      have HC4 := hid (fun j (hj : j < l.length) => (show w4.cell? ⟨b, off + j, none⟩ = some (.int .i64 (cN l j : Int)) from by rw [P4.out.cell (p := ⟨b, off + j, none⟩) hbl]; exact HC.out j hj))
      have hx0 := HN.out 0 hpos
      have Z0 := hid z0
      have Z1 := hid z1
      clear z0 z1
      go_wp2
      go_loopw [11, 12, 13] (fun u v t wr => ∃ (k mn mx : Nat), k ≤ l.length ∧ t = .int .i64 k ∧ u = .int .i64 mn ∧ v = .int .i64 mx ∧ mx ≤ 1000000 ∧ mn ≤ mx ∧ Hid (∀ j, j < k → mn ≤ cN l j ∧ cN l j ≤ mx) ∧ Hid (∃ n, wr = w4.drewN n)) (fun _ _ t _ => l.length - (intOf t).toNat)
      case atStart => exact ⟨0, cN l 0, cN l 0, Nat.zero_le _, rfl, rfl, rfl, hx0, Nat.le_refl _, fun j hj => absurd hj (Nat.not_lt_zero _), ⟨0, rfl⟩⟩
      case round =>
        obtain ⟨k, mn, mx, hk, rfl, rfl, rfl, hmx, hmm, HB, HWR⟩ := hrel
        obtain ⟨n, rfl⟩ := HWR.out
        clear HWR hx0
        by_cases hlt : k < l.length
        · have i0 : (0 : Int) ≤ (k : Int) := by omega
          have i1 : (k : Int) < (l.length : Int) := by omega
          have hx := HN.out k hlt
          have ck : w4.cell? ⟨b, off + k, none⟩ = some (.int .i64 (cN l k : Int)) := HC4.out k hlt
          generalize hX : cN l k = x at *
          by_cases hA : x < mn
          · have e1 : (x : Int) < (mn : Int) := by omega
            have e2 : ¬ (mn : Int) ≤ (x : Int) := by omega
            have e3 : ¬ (mx : Int) < (x : Int) := by omega
            have e4 : (x : Int) ≤ (mx : Int) := by omega
            go_wp2_with fail
            go_region
            go_wp2
            go_roundw
            case rel => exact ⟨k + 1, x, mx, by omega, by go_num, rfl, rfl, by omega, by omega, fun j hj => by
              rcases Nat.lt_succ_iff_lt_or_eq.1 hj with hj | rfl
              · have := HB.out j hj; omega
              · omega, ⟨_, rfl⟩⟩
            case measure => simp [intOf]; omega
          · by_cases hC : mx < x
            · have e1 : (mx : Int) < (x : Int) := by omega
              have e2 : ¬ (x : Int) ≤ (mx : Int) := by omega
              have e3 : ¬ (x : Int) < (mn : Int) := by omega
              have e4 : (mn : Int) ≤ (x : Int) := by omega
              go_wp2_with fail
              go_region
              go_wp2
              go_roundw
              case rel => exact ⟨k + 1, mn, x, by omega, by go_num, rfl, rfl, by omega, by omega, fun j hj => by
                rcases Nat.lt_succ_iff_lt_or_eq.1 hj with hj | rfl
                · have := HB.out j hj; omega
                · omega, ⟨_, rfl⟩⟩
              case measure => simp [intOf]; omega
            · have e1 : ¬ (mx : Int) < (x : Int) := by omega
              have e2 : (x : Int) ≤ (mx : Int) := by omega
              have e3 : ¬ (x : Int) < (mn : Int) := by omega
              have e4 : (mn : Int) ≤ (x : Int) := by omega
              go_wp2_with fail
              go_region
              go_wp2
              go_roundw
              case rel => exact ⟨k + 1, mn, mx, by omega, by go_num, rfl, rfl, by omega, by omega, fun j hj => by
                rcases Nat.lt_succ_iff_lt_or_eq.1 hj with hj | rfl
                · have := HB.out j hj; omega
                · omega, ⟨_, rfl⟩⟩
              case measure => simp [intOf]; omega
        · obtain rfl : k = l.length := by omega
          have hL := HLo.out mn (fun j hj => (HB.out j hj).1)
          have hH := HHi.out mx (fun j hj => (HB.out j hj).2)
          have hb1 : mx * p ≤ 1000000 * 10000000 := Nat.mul_le_mul hmx hp
          have hb2 : mn * p ≤ mx * p := Nat.mul_le_mul hmm (Nat.le_refl _)
          have u1 : (mn : Int) * (p : Int) ≤ 10000000000000 := by rw [← Int.natCast_mul]; omega
          have u2 : (0 : Int) ≤ (mn : Int) * (p : Int) := by rw [← Int.natCast_mul]; omega
          have u3 : (mx : Int) * (p : Int) ≤ 10000000000000 := by rw [← Int.natCast_mul]; omega
          have u4 : (0 : Int) ≤ (mx : Int) * (p : Int) := by rw [← Int.natCast_mul]; omega
          have u5 : (mn : Int) * (p : Int) ≤ (s : Int) := by rw [← Int.natCast_mul]; omega
          have u6 : (s : Int) ≤ (mx : Int) * (p : Int) := by rw [← Int.natCast_mul]; omega
          have z0 := Z0.out
          have z1 := Z1.out
          have v1 : IntKind.i64.wrap ((mn : Int) * (p : Int)) = (mn : Int) * (p : Int) := IntWalk.i64_in _ (by omega)
          have v2 : IntKind.i64.wrap ((mx : Int) * (p : Int)) = (mx : Int) * (p : Int) := IntWalk.i64_in _ (by omega)
          clear hL hH hb1 hb2 HB HC4 hlt
          go_wp2_with fail
          refine (known6_any _).mono ?_
          rintro e wz ⟨hb, rfl⟩
          have P5 := hid (below_drewN P4.out n)
          have PZ := hid (P5.out.trans (hb.mono P5.out.size))
          clear hb
          go_wp2
          go_ret
          exact ⟨PZ.out, rfl⟩
end Go.Proofs.Ytfjncmhbpfcdiab
