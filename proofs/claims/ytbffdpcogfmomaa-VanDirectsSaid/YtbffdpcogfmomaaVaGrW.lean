/- The document's smallest tree, the walk: chapter 8. -/
import Derived.Test.YtbffdpcogfmomaaVaGr
set_option linter.unusedVariables false
namespace Go.Proofs.Ytbffdpcogfmomaa
open Go.RowKit

set_option maxRecDepth 100000 in
set_option maxHeartbeats 8000000 in
theorem rGrown_any (a : Option Addr) (t : Tbl) (cap n f : Nat) (w : World) (h : TabAt w a t) (hs : Sq t n) (hf : f < n) : Calls Try.prog 71 #[.slice a n cap, .int .i64 (f : Int)] w (fun en w' => Below w.heap.size w w' ∧ ∃ m, en = .returned (.int .i64 m) ∧ Mst t (plL f n) f m ∧ -21000 ≤ m ∧ m ≤ 21000) := by
  have hn7 := hs.le
  obtain ⟨b, off, rfl, hc0⟩ := h.sq hs (by omega)
  have HC := hid (fun (w' : World) (hb : Below w.heap.size w w') => show ∀ i, i < n → ∃ b2 o2 c, w'.cell? ⟨b, off + i, none⟩ = some (.slice (some ⟨b2, o2, none⟩) n c) ∧ ∀ j, j < n → w'.cell? ⟨b2, o2 + j, none⟩ = some (.int .i64 (tA t i j)) from fun i hi => by
    obtain ⟨b2, o2, c, h1, h2, h3⟩ := hc0 i hi
    exact ⟨b2, o2, c, by rw [hb.cell (cell_lt h1)]; exact h1, fun j hj => by rw [hb.cell (cell_lt (h3 j hj))]; exact h3 j hj⟩)
  have HQ := hid hs
  have hmk := make_marks n (by omega)
  have hx := (Below.refl w.heap.size w).alloc (Nat.le_refl _) (.cells (bcV (fun _ => false) n) 4)
  have hz := heap_alloc_new w (.cells (bcV (fun _ => false) n) 4)
  have k0 := mk_cell hz f hf
  have f0 := mk_free hz f
  have HD := hid (mk_store hz f)
  have HB0 := hid (hx.setCell (p := ⟨w.heap.size, f, none⟩) (Nat.le_refl _) (.bool true))
  have sf : IntKind.i64.wrap ((f : Int) + 1) = (f : Int) + 1 := IntWalk.i64_in _ (by omega)
  have hfi : (f : Int) < (n : Int) := by omega
  clear h hc0 hs hx hz
  generalize hw1 : w.alloc (.cells (bcV (fun _ => false) n) 4) = w1 at *
  go_enter Try.func71, Try.ntmps71
  go_wp2_with fail
  clear hw1 hmk k0 f0
  go_loopw [7, 8] (fun s v wr => ∃ (j : Nat) (m : Int) (mk : Nat → Bool), f + 1 + j ≤ n ∧ s = .int .i64 m ∧ v = .int .i64 (f + 1 + j : Nat) ∧ Hid (GrS t n f mk j m) ∧ Hid (wr.heap[w.heap.size]? = some (.cells (bcV mk n) 4 (0, 0))) ∧ Hid (Below w.heap.size w wr)) (fun _ v _ => n - (intOf v).toNat)
  case atStart => exact ⟨0, 0, mkB (fun _ => false) f, by omega, rfl, by go_num, GrS.start hf, HD, HB0⟩
  case round =>
    obtain ⟨j, m, mk, hj, rfl, rfl, HG, HM, HB⟩ := hrel
    clear HD HB0
    have hmb := HG.out.mb
    by_cases hlt : f + 1 + j < n
    · have hlt' : ((f + 1 + j : Nat) : Int) < (n : Int) := by omega
      generalize hq : f + 1 + j = q at *
      generalize wr = wo at *
      go_wp2_with fail
      go_loop [9, 10, 11] (fun vb va vi => ∃ (i : Nat) (best at_ : Int), f ≤ i ∧ i ≤ n ∧ vi = .int .i64 i ∧ vb = .int .i64 best ∧ va = .int .i64 at_ ∧ Hid (Least t mk f n i f best at_)) (fun _ _ vi => n - (intOf vi).toNat)
      case atStart => exact ⟨f, 0, -1, Nat.le_refl _, by omega, rfl, rfl, rfl, Least.start t mk f n⟩
      case round =>
        obtain ⟨i, best, at_, hfi2, hin, rfl, rfl, rfl, HL⟩ := hrel
        by_cases hlti : i < n
        · go_wp2_with fail
          go_loop [9, 10, 12] (fun vb va vk => ∃ (k : Nat) (best at_ : Int), f ≤ k ∧ k ≤ n ∧ vk = .int .i64 k ∧ vb = .int .i64 best ∧ va = .int .i64 at_ ∧ Hid (Least t mk f n i k best at_)) (fun _ _ vk => n - (intOf vk).toNat)
          case atStart => exact ⟨f, best, at_, Nat.le_refl _, by omega, rfl, rfl, rfl, HL⟩
          case round =>
            obtain ⟨k, best, at_, hfk, hkn, rfl, rfl, rfl, HK⟩ := hrel
            clear HL
            by_cases hltk : k < n
            · have m1 := mk_cell HM.out i hlti
              have m2 := mk_cell HM.out k hltk
              have q1 : (i : Int) < (n : Int) := by omega
              have q2 : (k : Int) < (n : Int) := by omega
              obtain ⟨b2, o2, c2, g1, g2⟩ := HC.out wo HB.out i hlti
              have g3 := g2 k hltk
              clear g2
              have HSk := hid (fun e => HK.out.skip (i := i) (k := k) e)
              have HTk := hid (fun h1 h2 h3 => HK.out.take (i := i) (k := k) ⟨hfi2, hlti⟩ ⟨hfk, hltk⟩ h1 h2 h3)
              have HLv := hid (fun e => HK.out.leave (i := i) (k := k) e)
              cases hmi : mk i with
              | false =>
                rw [hmi] at m1
                have HX := hid (HSk.out (fun h => by rw [hmi] at h; simp at h))
                clear HSk HTk HLv hmi
                go_wp2
                go_round
                case rel => exact ⟨k + 1, best, at_, by omega, by omega, by go_num, rfl, rfl, HX⟩
                case measure => simp [intOf]; omega
              | true =>
                rw [hmi] at m1
                cases hmk2 : mk k with
                | true =>
                  rw [hmk2] at m2
                  have HX := hid (HSk.out (fun h => by rw [hmk2] at h; simp at h))
                  clear HSk HTk HLv hmi hmk2
                  go_wp2
                  go_round
                  case rel => exact ⟨k + 1, best, at_, by omega, by omega, by go_num, rfl, rfl, HX⟩
                  case measure => simp [intOf]; omega
                | false =>
                  rw [hmk2] at m2
                  have HT1 := hid (fun e => HTk.out hmi hmk2 e)
                  clear HSk HTk hmi hmk2
                  obtain ⟨e1, he1⟩ : ∃ e1, tA t i k = e1 := ⟨_, rfl⟩
                  have HE1 := hid he1
                  rw [he1] at g3 HT1 HLv
                  clear he1
                  by_cases ha : at_ < 0
                  · have HX := hid (HT1.out (.inl ha))
                    clear HT1 HLv
                    go_wp2
                    go_round
                    case rel => exact ⟨k + 1, e1, k, by omega, by omega, by go_num, rfl, rfl, HX⟩
                    case measure => simp [intOf]; omega
                  · by_cases hc : e1 < best
                    · have HX := hid (HT1.out (.inr hc))
                      have ha' : 0 ≤ at_ := by omega
                      clear HT1 HLv ha
                      go_wp2
                      go_round
                      case rel => exact ⟨k + 1, e1, k, by omega, by omega, by go_num, rfl, rfl, HX⟩
                      case measure => simp [intOf]; omega
                    · have HX := hid (HLv.out (fun h => by rcases h with h | h <;> omega))
                      have ha' : 0 ≤ at_ := by omega
                      have hc' : best ≤ e1 := by omega
                      clear HT1 HLv ha hc
                      go_wp2
                      go_round
                      case rel => exact ⟨k + 1, best, at_, by omega, by omega, by go_num, rfl, rfl, HX⟩
                      case measure => simp [intOf]; omega
            · obtain rfl : k = n := by omega
              have HX := hid HK.out.row
              go_wp2
              go_round
              case rel => exact ⟨i + 1, best, at_, by omega, by omega, by go_num, rfl, rfl, HX⟩
              case measure => simp [intOf]; omega
        · obtain rfl : i = n := by omega
          obtain ⟨y, hy, rfl, hG2, hb1, hb2⟩ := HG.out.next hf HQ.out (by omega) HL.out
          have HG2 := hid hG2
          have k1 := mk_cell HM.out y hy
          have f1 := mk_free HM.out y
          have HM2 := hid (mk_store HM.out y)
          have HB2 := hid (HB.out.setCell (p := ⟨w.heap.size, y, none⟩) (Nat.le_refl _) (.bool true))
          have q1 : (y : Int) < (i : Int) := by omega
          clear hG2 HL HM
          go_wp2
          go_roundw
          case rel => exact ⟨j + 1, m + best, mkB mk y, by omega, by go_num, by rw [show f + 1 + (j + 1) = q + 1 by omega]; go_num, HG2, HM2, HB2⟩
          case measure => simp [intOf]; omega
    · have e : f + 1 + j = n := by omega
      have hge : (n : Int) ≤ ((f + 1 + j : Nat) : Int) := by omega
      have HX := hid (HG.out.mst hf e)
      clear e
      go_wp2
      go_ret
      exact ⟨HB.out, m, rfl, HX.out, by omega, by omega⟩
end Go.Proofs.Ytbffdpcogfmomaa
