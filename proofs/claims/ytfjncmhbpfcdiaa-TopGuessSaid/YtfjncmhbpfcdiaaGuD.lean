/- Wrong and BestAdviser of package guess. -/
import Derived.Test.YtfjncmhbpfcdiaaGuC
set_option linter.unusedVariables false
namespace Go.Proofs.Ytfjncmhbpfcdiaa
open Go.RowKit

def DrwP (w : World) (p : Int × Int) (en : Ending) (w' : World) : Prop := ∃ n, w' = w.drewN n ∧ en = .returned (.tuple #[.int .i64 p.1, .int .i64 p.2])
def DrwT (w : World) (p : Int × Int × Int) (en : Ending) (w' : World) : Prop := ∃ n, w' = w.drewN n ∧ en = .returned (.tuple #[.int .i64 p.1, .int .i64 p.2.1, .int .i64 p.2.2])
/-- What Wrong answers. -/
def wrongV (g : List Rnd) (x : Int) : Int × Int := if chkG g x = 0 then (wrongN g x.toNat g.length, 0) else (0, chkG g x)
/-- What BestAdviser answers. -/
def bestV (g : List Rnd) : Int × Int × Int := if gameN g = 0 then ((bestTo g (advs g) : Nat), (wrongN g (bestTo g (advs g)) g.length : Nat), 0) else (0, 0, gameN g)
theorem ret3 {a b c d e f : Int} (h : a = d) (h2 : b = e) (h3 : c = f) : Ending.returned (.tuple #[.int .i64 a, .int .i64 b, .int .i64 c]) = .returned (.tuple #[.int .i64 d, .int .i64 e, .int .i64 f]) := by rw [h, h2, h3]

set_option maxHeartbeats 1000000 in
theorem gWrongP_any (a : Option Addr) (g : List Rnd) (cap : Nat) (x : Int) (w : World) (h : GameAt w a g) : Calls Try.prog 16 #[.slice a g.length cap, .int .i64 x] w (DrwP w (wrongV g x)) := by
  have hlen := h.len
  have HC := hid (gCheck_any a g cap x w h)
  have HE := hid (show wrongV g x = if chkG g x = 0 then ((wrongN g x.toNat g.length : Int), 0) else (0, chkG g x) from rfl)
  by_cases h0 : chkG g x = 0
  · have HE := hid ((HE.out).trans (if_pos h0))
    obtain ⟨hg, n, rfl, hn⟩ := chkG_ok h0
    rw [h0] at HC
    have HW := hid (fun m => gWrong_any a g cap n (w.drewN m) (h.drew m) hg hn)
    have hwl := wrongN_le g n g.length
    clear h h0 hg
    go_enter Try.func16, Try.ntmps16
    go_wp2_with fail
    refine HC.out.mono ?_
    rintro e w1 ⟨m, rfl, rfl⟩
    go_wp2_with fail
    refine (HW.out m).mono ?_
    rintro e w2 ⟨m2, rfl, rfl⟩
    go_wp2
    go_ret2
    exact ⟨m + m2, rfl, by rw [HE.out]; rfl⟩
  · have HE := hid ((HE.out).trans (if_neg h0))
    have h1 : (chkG g x != 0) = true := by simp [h0]
    clear h h0
    generalize chkG g x = v at *
    go_enter Try.func16, Try.ntmps16
    go_wp2_with fail
    refine HC.out.mono ?_
    rintro e w1 ⟨m, rfl, rfl⟩
    go_wp2
    go_ret2
    exact ⟨m, rfl, by rw [HE.out]; rfl⟩

theorem bestTo_one (g : List Rnd) : bestTo g 1 = 0 := by simp [bestTo]
set_option maxRecDepth 100000 in
set_option maxHeartbeats 1000000 in
theorem gBest_any (a : Option Addr) (g : List Rnd) (cap : Nat) (w : World) (h : GameAt w a g) : Calls Try.prog 20 #[.slice a g.length cap] w (DrwT w (bestV g)) := by
  have hlen := h.len
  have HC := hid (gCheck_any a g cap 0 w h)
  rw [chkG_zero] at HC
  have HE := hid (show bestV g = if gameN g = 0 then ((bestTo g (advs g) : Int), (wrongN g (bestTo g (advs g)) g.length : Int), 0) else (0, 0, gameN g) from rfl)
  by_cases h0 : gameN g = 0
  · have HE := hid ((HE.out).trans (if_pos h0))
    obtain ⟨hg0, hpos⟩ := gameN_ok h0
    have hg := gameE_ok hg0
    have had := hg.adv 0 hpos
    rw [h0] at HC
    have HW := hid (fun (n : Nat) (hn : n < advs g) m => gWrong_any a g cap n (w.drewN m) (h.drew m) hg hn)
    have HA := hid (fun m => advisers_any a g cap (w.drewN m) (h.drew m))
    have HL := hid (fun n => wrongN_le g n g.length)
    have hl24 := hg.len
    have a1 : 1 ≤ advs g := had.2.1
    have a8 : advs g ≤ 8 := had.2.2
    have HB := hid (fun n => bestTo_le g n)
    have HBs := hid (show ∀ n, bestTo g (n + 1) = if wrongN g n g.length < wrongN g (bestTo g n) g.length then n else bestTo g n from fun n => rfl)
    clear h h0 hg hg0 had
    generalize advs g = d at *
    go_enter Try.func20, Try.ntmps20
    go_wp2_with fail
    refine HC.out.mono ?_
    rintro e w1 ⟨m, rfl, rfl⟩
    go_wp2_with fail
    refine (HW.out 0 (by omega) m).mono ?_
    rintro e w2 ⟨m2, rfl, rfl⟩
    rw [World.drewN_drewN]
    go_wp2_with fail
    refine (HA.out (m + m2)).mono ?_
    rintro e w3 ⟨rfl, rfl⟩
    go_wp2
    go_loopw [6, 7, 19] (fun b l i wr => ∃ (k : Nat), k ≤ d ∧ i = .int .i64 k ∧ b = .int .i64 (bestTo g k) ∧ l = .int .i64 (wrongN g (bestTo g k) g.length) ∧ Hid (∃ n, wr = w.drewN n)) (fun _ _ i _ => d - (intOf i).toNat)
    case atStart => exact ⟨0, Nat.zero_le _, rfl, rfl, rfl, ⟨m + m2, rfl⟩⟩
    case round =>
      obtain ⟨k, hk, rfl, rfl, rfl, HWr⟩ := hrel
      have hb1 := HL.out (bestTo g k)
      by_cases hlt : k < d
      · have HW1 := hid (HW.out k hlt)
        have hb2 := HL.out k
        have HN := hid (HBs.out k)
        have HWe : Hid (∃ n, wr = w.drewN n) := HWr
        obtain ⟨n9, hn9⟩ := HWr.out
        have HW2 := hid (show Calls Try.prog 45 #[.slice a g.length cap, .int .i64 (k : Int)] wr (DrwI wr (wrongN g k g.length)) by rw [hn9]; exact HW1.out n9)
        clear hn9 n9
        have hbk : bestTo g k ≤ k := by
          rcases Nat.eq_zero_or_pos k with rfl | hh
          · exact Nat.le_refl _
          · exact Nat.le_of_lt (HB.out k hh)
        generalize hbg : bestTo g k = bk at *
        have HN := hid HN.out
        generalize hv : wrongN g k g.length = v at *
        generalize hu : wrongN g bk g.length = u at *
        have HV := hid hv
        have HU := hid hu
        clear hbg hv hu
        by_cases hvu : v < u
        · have HN := hid ((HN.out).trans (if_pos hvu))
          go_wp2_with fail
          refine HW2.out.mono ?_
          rintro e w4 ⟨m4, rfl, rfl⟩
          go_wp2
          go_roundw
          case rel => exact ⟨k + 1, by omega, by go_num, by rw [HN.out], by rw [HN.out, HV.out], by obtain ⟨n, e⟩ := HWe.out; exact ⟨n + m4, by rw [e, World.drewN_drewN]⟩⟩
          case measure => simp [intOf]; omega
        · have HN := hid ((HN.out).trans (if_neg hvu))
          go_wp2_with fail
          refine HW2.out.mono ?_
          rintro e w4 ⟨m4, rfl, rfl⟩
          go_wp2
          go_roundw
          case rel => exact ⟨k + 1, by omega, by go_num, by rw [HN.out], by rw [HN.out, HU.out], by obtain ⟨n, e⟩ := HWe.out; exact ⟨n + m4, by rw [e, World.drewN_drewN]⟩⟩
          case measure => simp [intOf]; omega
      · obtain rfl : k = d := by omega
        go_wp2
        exact bodyPost_ret (v := .tuple #[.int .i64 (bestTo g k), .int .i64 (wrongN g (bestTo g k) g.length), .int .i64 0]) (by simp [results, Try.results20, go_sem]) rfl (by obtain ⟨n, e⟩ := HWr.out; exact ⟨n, e, by rw [HE.out]⟩)
  · have HE := hid ((HE.out).trans (if_neg h0))
    have h1 : (gameN g != 0) = true := by simp [h0]
    clear h h0
    generalize gameN g = v at *
    go_enter Try.func20, Try.ntmps20
    go_wp2_with fail
    refine HC.out.mono ?_
    rintro e w1 ⟨m, rfl, rfl⟩
    go_wp2
    exact bodyPost_ret (v := .tuple #[.int .i64 0, .int .i64 0, .int .i64 v]) (by simp [results, Try.results20, go_sem]) rfl ⟨m, rfl, by rw [HE.out]⟩
end Go.Proofs.Ytfjncmhbpfcdiaa
