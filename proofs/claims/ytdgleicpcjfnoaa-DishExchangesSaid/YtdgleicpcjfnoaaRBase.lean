/- The document's own base of books. -/
import Derived.Test.YtdgleicpcjfnoaaRSets
import Derived.Test.YtdgleicpcjfnoaaSteps
/- The document's own inside, base of books. -/
set_option linter.unusedVariables false
namespace Go.Proofs.Ytdgleicpcjfnoaa
open Go.RowKit

theorem own_lit (w : World) (n M base : Nat) (hn : n ≤ 1000000) (hb : base ≤ w.heap.size) : OwnB (w.alloc (.cells (bcells M n).toArray 4)) base w.heap.size n M n := by
  have := World.ownsRow_lit (e := 4) (size := 1) w (bcells M n).toArray n hb (by unfold maxLen; omega) (by simp [bcells_len])
  exact this

set_option maxRecDepth 100000 in
set_option maxHeartbeats 8000000 in
theorem inside_any (P : Int) (ia : Option Addr) (its : List ItemL) (ic : Nat) (r : Value) (item : Nat) (w : World) (h : ItemsAt w ia its) (hl : its.length ≤ 20) (hn : item < its.length) (hi : itemsE P 0 its = 0) :
  Calls Try.prog 57 #[.agg #[.int .i64 P, .slice ia its.length ic, r], .int .i64 item] w (BoolsV w its.length (contL its item)) := by
  have HI := hid (itemsE_ok P its 0 hi)
  have HH := hid h
  have HMk := make_bools its.length (by omega)
  have hl' : (its.length : Int) ≤ 20 := by omega
  have HO0 := hid (own_made (w.alloc (.cells #[.int .i64 P, .slice ia its.length ic, r] 25)) its.length w.heap.size (by omega) (by simp))
  simp only [World.size_alloc] at HO0
  have p0 := ((Below.refl w.heap.size w).alloc (Nat.le_refl _) (.cells #[.int .i64 P, .slice ia its.length ic, r] 25)).alloc (by simp) (.cells (bcells 0 its.length).toArray 4)
  have f0 := World.ownsRow.frozenAt (show World.ownsRow _ _ _ _ _ _ _ from HO0.out) item
  have d0 : ((w.alloc (.cells #[.int .i64 P, .slice ia its.length ic, r] 25)).alloc (.cells (bcells 0 its.length).toArray 4)).cell? ⟨w.heap.size + 1, item, none⟩ = some (.bool false) := by
    have := HO0.out
    unfold OwnB at this
    rw [this.cellAt _ (by omega), bcells_at _ _ _ hn]; simp
  have a1 : ((w.alloc (.cells #[.int .i64 P, .slice ia its.length ic, r] 25)).alloc (.cells (bcells 0 its.length).toArray 4)).cell? ⟨w.heap.size, 1, none⟩ = some (.slice ia its.length ic) := by go_simp
  have HO1 := hid (own_lit (w.alloc (.cells #[.int .i64 P, .slice ia its.length ic, r] 25)) its.length (2 ^ item) w.heap.size (by omega) (by simp))
  simp only [World.size_alloc] at HO1
  have HSet := hid (show (bcells 0 its.length).set item (.bool true) = bcells (2 ^ item) its.length by rw [bcells_set, Nat.zero_or])
  have hni : (item : Int) < (its.length : Int) := by omega
  clear h hi
  go_enter Try.func57, Try.ntmps57
  go_wp2
  go_loopw [6] (fun i wr => ∃ (x : Int) (M : Nat), -1 ≤ x ∧ x ≤ item ∧ i = .int .i64 x ∧ OwnB wr w.heap.size (w.heap.size + 1) its.length M its.length ∧ Hid (contL its item = contTo its M (x + 1).toNat) ∧ wr.cell? ⟨w.heap.size, 1, none⟩ = some (.slice ia its.length ic) ∧ Below w.heap.size w wr) (fun i _ => (intOf i + 1).toNat)
  case atStart => exact ⟨item, 2 ^ item, by omega, by omega, rfl, by rw [HSet.out]; exact HO1.out, rfl, by go_simp, (((Below.refl w.heap.size w).alloc (Nat.le_refl _) _).alloc (by simp) _)⟩
  case round =>
    clear HO1 HO0 f0 d0 a1 p0 HMk HSet
    obtain ⟨x, M, hx0, hx1, rfl, hown, HM, a1, hB⟩ := hrel
    by_cases hxx : 0 ≤ x
    · obtain ⟨j, rfl⟩ := Int.eq_ofNat_of_zero_le hxx
      have hjl : j < its.length := by omega
      rcases ((HH.out).below hB).at_ with e | ⟨b, off, rfl, hc⟩
      · rw [e] at hjl; simp at hjl
      obtain ⟨A, c, B, d, c0, c1, hA, hBd⟩ := hc j hjl
      obtain ⟨e1, e2, e3⟩ := HI.out j hjl
      have HM2 := hid (show contL its item = contTo its (if M.testBit j then M ||| maskL (its[j]?.getD ([], [])).1 else M) j by
        rw [HM.out, show ((j : Int) + 1).toNat = j + 1 by omega]; rfl)
      have hsm : Small j (its[j]?.getD ([], [])).1 := fun x hx => by have := isSetFrom_ge _ _ _ e2 x hx; omega
      have hj0 : (0 : Int) ≤ (j : Int) := by omega
      have hj1 : (j : Int) < (its.length : Int) := by omega
      clear hc e2 e3 HM hBd c1 hxx
      generalize hps : (its[j]?.getD ([], [])).1 = ps at *
      have HPs := hid hps
      clear hps
      have hown1 : w.heap.size + 1 < wr.heap.size := hown.base.2
      have g0 : wr.cell? ⟨w.heap.size + 1, j, none⟩ = some (.bool (M.testBit j)) := by
        unfold OwnB at hown
        rw [hown.cellAt _ (by omega), bcells_at _ _ _ hjl]
      cases ht : M.testBit j with
      | false =>
        rw [ht] at g0
        have HM3 := hid (show contL its item = contTo its M j by rw [HM2.out, ht]; rfl)
        clear ht HM2 hA
        go_wp2
        refine wp_loop_rounds 1 ?_
        rw [rounds_succ]
        by_cases hps : 0 < ps.length
        all_goals
          go_wp2
          go_roundw
          case rel => exact ⟨(j : Int) - 1, M, by omega, by omega, rfl, hown, by unfold Hid; rw [HM3.out, show ((j : Int) - 1 + 1).toNat = j by omega], a1, hB⟩
          case measure => simp [intOf] <;> omega
      | true =>
        have HM3 := hid (show contL its item = contTo its (M ||| maskL ps) j by rw [HM2.out, ht]; rfl)
        have HT := hid ht
        clear ht HM2 g0 hA
        go_wp2
        obtain ⟨wo, rfl⟩ : ∃ wo : World, wo = wr := ⟨_, rfl⟩
        go_loopw [7] (fun i wr => ∃ k : Nat, k ≤ ps.length ∧ i = .int .i64 k ∧ OwnB wr w.heap.size (w.heap.size + 1) its.length (M ||| maskL (ps.take k)) its.length ∧ wr.cell? ⟨w.heap.size, 1, none⟩ = some (.slice (some ⟨b, off, none⟩) its.length ic) ∧ Below w.heap.size w wr) (fun i _ => ps.length - (intOf i).toNat)
        case atStart => exact ⟨0, Nat.zero_le _, rfl, by simpa [maskL, maskFrom] using hown, a1, hB⟩
        case round =>
          clear hown a1 hB c0 hown1
          obtain ⟨k, hk, rfl, hown, a1, hB⟩ := hrel
          rcases ((HH.out).below hB).at_ with e | ⟨b', off', hb', hc⟩
          · rw [e] at hjl; simp at hjl
          cases hb'
          obtain ⟨A, c, B, d, c0, _, hA, _⟩ := hc j hjl
          rw [HPs.out] at c0 hA
          clear hc
          have hown1 : w.heap.size + 1 < wr.heap.size := hown.base.2
          have g0 : wr.cell? ⟨w.heap.size + 1, j, none⟩ = some (.bool true) := by
            have := hown
            unfold OwnB at this
            rw [this.cellAt _ (by omega), bcells_at _ _ _ hjl, Nat.testBit_or, HT.out]; rfl
          by_cases hlt : k < ps.length
          · rcases hA.at_ with e | ⟨b2, off2, rfl, hc2⟩
            · rw [e] at hlt; simp at hlt
            have d0 := hc2 k hlt
            have hx := hsm _ (getD_mem ps k hlt)
            have HT2 := hid (or_take M ps k hlt)
            clear hc2
            generalize ps[k]?.getD 0 = x at *
            obtain ⟨m, rfl⟩ := Int.eq_ofNat_of_zero_le hx.1
            rw [Int.toNat_natCast] at HT2
            generalize M ||| maskL (ps.take k) = Mk at *
            have e0 : wr.cell? ⟨w.heap.size + 1, m, none⟩ = some (.bool (Mk.testBit m)) := by
              have := hown
              unfold OwnB at this
              rw [this.cellAt _ (by omega), bcells_at _ _ _ (by omega)]
            have f0 : wr.frozen? ⟨w.heap.size + 1, m, none⟩ = false := by have := hown; unfold OwnB at this; exact this.frozenAt m
            have hmj : m < its.length := by omega
            go_wp2
            go_roundw
            case rel => exact ⟨k + 1, by omega, by go_num, by rw [HT2.out]; exact hown.set m, by go_simp, hB.setCell (by simp) _⟩
            case measure => simp [intOf]; omega
          · obtain rfl : k = ps.length := by omega
            rw [List.take_length] at hown
            go_wp2
            go_roundw
            case rel => exact ⟨(j : Int) - 1, M ||| maskL ps, by omega, by omega, rfl, hown, by unfold Hid; rw [HM3.out, show ((j : Int) - 1 + 1).toNat = j by omega], a1, hB⟩
            case measure => simp [intOf] <;> omega
    · obtain rfl : x = -1 := by omega
      have HMe := hid (show contL its item = M from HM.out)
      have hA := hown.at_ (by omega)
      go_wp2
      go_ret
      exact ⟨hB, _, _, rfl, by rw [HMe.out]; exact hA, fun ad h => by cases h; exact Nat.le_succ _⟩
end Go.Proofs.Ytdgleicpcjfnoaa
set_option linter.unusedVariables false
namespace Go.Proofs.Ytdgleicpcjfnoaa
open Go.RowKit

set_option maxRecDepth 100000 in
set_option maxHeartbeats 8000000 in
theorem base_any (P : Nat) (ia : Option Addr) (its : List ItemL) (ic : Nat) (r : Value) (item : Nat) (w : World) (h : ItemsAt w ia its) (hP : P ≤ 10) (hl : its.length ≤ 20) (hn : item < its.length) (hi : itemsE (P : Int) 0 its = 0) :
  Calls Try.prog 60 #[.agg #[.int .i64 P, .slice ia its.length ic, r], .int .i64 item] w (BoolsV w P (propsL (ownL its item))) := by
  have HI := hid (itemsE_ok P its 0 hi)
  have HH := hid h
  have HMk := make_bools P (by omega)
  have hl' : (its.length : Int) ≤ 20 := by omega
  have HBo := hid (base_own its item (contL_bits (P : Int) its hi item hn) (by omega))
  have HO0 := hid (own_lit (w.alloc (.cells #[.int .i64 P, .slice ia its.length ic, r] 25)) P 0 w.heap.size (by omega) (by simp))
  simp only [World.size_alloc] at HO0
  have p0 := ((Below.refl w.heap.size w).alloc (Nat.le_refl _) (.cells #[.int .i64 P, .slice ia its.length ic, r] 25)).alloc (by simp) (.cells (bcells 0 P).toArray 4)
  have HIn := hid (fun (w' : World) (hb : Below w.heap.size w w') => inside_any (P : Int) ia its ic r item w' (h.below hb) hl hn hi)
  clear h hi
  go_enter Try.func60, Try.ntmps60
  go_wp2_with fail
  refine (HIn.out _ p0).mono ?_
  rintro e w1 ⟨q1, A1, c1, rfl, hin, hfr⟩
  have p1 := p0.trans (q1.mono (by simp; omega))
  have hs1 := q1.size
  simp only [World.size_alloc] at hs1
  have hown := HO0.out.below q1
  have a1 : w1.cell? ⟨w.heap.size, 1, none⟩ = some (.slice ia its.length ic) := by rw [q1.cell (by simp; omega)]; go_simp
  clear HO0 p0 q1 HMk HIn hs1
  have HFr := hid (show ∀ ad, A1 = some ad → ad.block ≠ w.heap.size + 1 from fun ad h => by have := hfr ad h; simp at this; omega)
  have HRes := hid HBo.out.symm
  clear hfr HBo
  generalize contL its item = C at *
  go_wp2
  go_loopw [7] (fun i wr => ∃ j : Nat, j ≤ its.length ∧ i = .int .i64 j ∧ OwnB wr w.heap.size (w.heap.size + 1) P (baseTo its C j) P ∧ wr.cell? ⟨w.heap.size, 1, none⟩ = some (.slice ia its.length ic) ∧ Below w.heap.size w wr ∧ BoolsAt wr A1 its.length C) (fun i _ => its.length - (intOf i).toNat)
  case atStart => exact ⟨0, Nat.zero_le _, rfl, hown, a1, p1, hin⟩
  case round =>
    clear hown a1 p1 hin
    obtain ⟨j, hj, rfl, hown, a1, hB, hin⟩ := hrel
    by_cases hjl : j < its.length
    · rcases ((HH.out).below hB).at_ with e | ⟨b, off, rfl, hc⟩
      · rw [e] at hjl; simp at hjl
      obtain ⟨A, c, B, d, c0, c1, hA, hBd⟩ := hc j hjl
      obtain ⟨e1, e2, e3⟩ := HI.out j hjl
      have HM := hid (show baseTo its C (j + 1) = if C.testBit j then baseTo its C j ||| maskL (its[j]?.getD ([], [])).2 else baseTo its C j from rfl)
      have hsm : Small P (its[j]?.getD ([], [])).2 := fun x hx => by have := isSetFrom_ge _ _ _ e3 x hx; omega
      have hj0 : (0 : Int) ≤ (j : Int) := by omega
      have hj1 : (j : Int) < (its.length : Int) := by omega
      clear hc e1 e2 e3 hA c0
      generalize hps : (its[j]?.getD ([], [])).2 = ps at *
      have HPs := hid hps
      clear hps
      generalize baseTo its C j = Mj at *
      have hown1 : w.heap.size + 1 < wr.heap.size := hown.base.2
      rcases hin.at_ with e | ⟨bi, oi, rfl, hci⟩
      · omega
      have g0 := hci j hjl
      have hbi : bi ≠ w.heap.size + 1 := HFr.out _ rfl
      clear hci
      cases ht : C.testBit j with
      | false =>
        rw [ht] at g0
        have HM3 := hid (show baseTo its C (j + 1) = Mj by rw [HM.out, ht]; rfl)
        clear ht HM hBd
        go_wp2
        refine wp_loop_rounds 1 ?_
        rw [rounds_succ]
        by_cases hps : 0 < ps.length
        all_goals
          go_wp2
          go_roundw
          case rel => exact ⟨j + 1, by omega, by go_num, by rw [HM3.out]; exact hown, a1, hB, hin⟩
          case measure => simp [intOf] <;> omega
      | true =>
        have HM3 := hid (show baseTo its C (j + 1) = Mj ||| maskL ps by rw [HM.out, ht]; rfl)
        have HT := hid ht
        clear ht HM g0 hBd
        go_wp2
        obtain ⟨wo, rfl⟩ : ∃ wo : World, wo = wr := ⟨_, rfl⟩
        go_loopw [8] (fun i wr => ∃ k : Nat, k ≤ ps.length ∧ i = .int .i64 k ∧ OwnB wr w.heap.size (w.heap.size + 1) P (Mj ||| maskL (ps.take k)) P ∧ wr.cell? ⟨w.heap.size, 1, none⟩ = some (.slice (some ⟨b, off, none⟩) its.length ic) ∧ Below w.heap.size w wr ∧ BoolsAt wr (some ⟨bi, oi, none⟩) its.length C) (fun i _ => ps.length - (intOf i).toNat)
        case atStart => exact ⟨0, Nat.zero_le _, rfl, by simpa [maskL, maskFrom] using hown, a1, hB, hin⟩
        case round =>
          clear hown a1 hB c1 hown1 hin
          obtain ⟨k, hk, rfl, hown, a1, hB, hin⟩ := hrel
          rcases ((HH.out).below hB).at_ with e | ⟨b', off', hb', hc⟩
          · rw [e] at hjl; simp at hjl
          cases hb'
          obtain ⟨A, c, B, d, _, c1, _, hA⟩ := hc j hjl
          rw [HPs.out] at c1 hA
          have hlA := hA.len
          clear hc
          have hown1 : w.heap.size + 1 < wr.heap.size := hown.base.2
          have g0 : wr.cell? ⟨bi, oi + j, none⟩ = some (.bool true) := by
            rcases hin.at_ with e | ⟨bi', oi', hb', hci⟩
            · omega
            cases hb'
            rw [hci j hjl, HT.out]
          by_cases hlt : k < ps.length
          · rcases hA.at_ with e | ⟨b2, off2, rfl, hc2⟩
            · rw [e] at hlt; simp at hlt
            have d0 := hc2 k hlt
            have hx := hsm _ (getD_mem ps k hlt)
            have HT2 := hid (or_take Mj ps k hlt)
            clear hc2
            generalize ps[k]?.getD 0 = x at *
            obtain ⟨m, rfl⟩ := Int.eq_ofNat_of_zero_le hx.1
            rw [Int.toNat_natCast] at HT2
            generalize Mj ||| maskL (ps.take k) = Mk at *
            have hmj : m < P := by omega
            have e0 : wr.cell? ⟨w.heap.size + 1, m, none⟩ = some (.bool (Mk.testBit m)) := by
              have := hown
              unfold OwnB at this
              rw [this.cellAt _ (by omega), bcells_at _ _ _ (by omega)]
            have f0 : wr.frozen? ⟨w.heap.size + 1, m, none⟩ = false := by have := hown; unfold OwnB at this; exact this.frozenAt m
            go_wp2
            go_roundw
            case rel => exact ⟨k + 1, by omega, by go_num, by rw [HT2.out]; exact hown.set m, by go_simp, hB.setCell (by simp) _, hin.setCell _ _ (fun ad h => by cases h; exact hbi)⟩
            case measure => simp [intOf]; omega
          · obtain rfl : k = ps.length := by omega
            rw [List.take_length] at hown
            go_wp2
            go_roundw
            case rel => exact ⟨j + 1, by omega, by go_num, by rw [HM3.out]; exact hown, a1, hB, hin⟩
            case measure => simp [intOf] <;> omega
    · obtain rfl : j = its.length := by omega
      have hA := hown.at_ (by omega)
      rw [← HRes.out] at hA
      go_wp2
      go_ret
      exact ⟨hB, _, _, rfl, hA, fun ad h => by cases h; exact Nat.le_succ _⟩
end Go.Proofs.Ytdgleicpcjfnoaa
