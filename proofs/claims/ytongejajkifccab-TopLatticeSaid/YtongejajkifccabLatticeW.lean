/- The law TopLattice: its walk. -/
import Derived.Test.YtongejajkifccabPairs
import Derived.Test.YtongejajkifccabKnownD
import Derived.Test.YtongejajkifccabEqPair
import Derived.Test.YtongejajkifccabLatticeM
import Derived.Deep.QuietTactic
import Derived.BigQuiet
import Derived.Deep.DeepCutAuto
set_option linter.unusedVariables false
namespace Go.Proofs.Ytongejajkifccab
open Go.RowKit

/-- Which of two pairs have been found. -/
def fnd (b1 b2 : Bool) : Nat := (if b1 then 1 else 0) + (if b2 then 2 else 0)
theorem fnd_one (b1 b2 : Bool) : bits .or .i64 ((fnd b1 b2 : Nat) : Int) 1 = ((fnd true b2 : Nat) : Int) := by cases b1 <;> cases b2 <;> decide +kernel
theorem fnd_two (b1 b2 : Bool) : bits .or .i64 ((fnd b1 b2 : Nat) : Int) 2 = ((fnd b1 true : Nat) : Int) := by cases b1 <;> cases b2 <;> decide +kernel

theorem mem_snoc (l : List (Int × Int)) (p q : Int × Int) : decide (p ∈ l ++ [q]) = (decide (p ∈ l) || (q.1 == p.1 && q.2 == p.2)) := by
  rw [Bool.eq_iff_iff]
  simp only [decide_eq_true_eq, Bool.or_eq_true, Bool.and_eq_true, beq_iff_eq, List.mem_append, List.mem_singleton]
  constructor
  · rintro (h | rfl)
    · exact .inl h
    · exact .inr ⟨rfl, rfl⟩
  · rintro (h | ⟨h1, h2⟩)
    · exact .inl h
    · exact .inr (Prod.ext h1.symm h2.symm)

set_option maxRecDepth 100000 in
set_option maxHeartbeats 4000000 in
theorem paired_any (a : Option Addr) (rows : List Int) (cap : Nat) (n : Nat) (A : Option Addr) (lc : Nat) (X Y : Nat) (w : World) (hI : Ints w a rows) (hP : PairsAt w A (pairsTo n rows (2 ^ rows.length)))
    (hz : validTab rows (n : Int) = 0) (hX : X < 2 ^ rows.length) (hY : Y < 2 ^ rows.length) (eX : eatN rows (comN n rows X rows.length) rows.length = X) (eY : eatN rows (comN n rows Y rows.length) rows.length = Y) :
  Calls Try.prog 20 #[.slice a rows.length cap, .int .i64 n, .slice A (pairsTo n rows (2 ^ rows.length)).length lc, .agg #[.int .i64 X, .int .i64 ((comN n rows X rows.length : Nat) : Int)], .agg #[.int .i64 Y, .int .i64 ((comN n rows Y rows.length : Nat) : Int)]] w (BoolR w true) := by
  obtain ⟨_, hn8, hr8, hrr⟩ := validTab_ok hz
  have hN : 2 ^ rows.length ≤ 256 := Nat.pow_le_pow_right (n := 2) (by omega) hr8
  have hnn : 2 ^ n ≤ 256 := Nat.pow_le_pow_right (n := 2) (by omega) (show n ≤ 8 by omega)
  have hcX := comN_lt n rows X rows.length
  have hcY := comN_lt n rows Y rows.length
  have hlen := hP.len
  have hab : X &&& Y < 2 ^ rows.length := Nat.lt_of_le_of_lt Nat.and_le_left hX
  have hcc : comN n rows X rows.length &&& comN n rows Y rows.length < 2 ^ n := Nat.lt_of_le_of_lt Nat.and_le_left hcX
  have HDv := hid (show dishesL rows (n : Int) ((X &&& Y : Nat) : Int) = (((comN n rows (X &&& Y) rows.length : Nat) : Int), 0) by
    rw [dishesL, if_neg (by simp [hz]), if_pos (by simp only [choiceB, Int.toNat_natCast, decide_eq_true_eq]; omega)]; simp)
  have HCv := hid (show childrenL rows (n : Int) ((comN n rows X rows.length &&& comN n rows Y rows.length : Nat) : Int) = (((eatN rows (comN n rows X rows.length &&& comN n rows Y rows.length) rows.length : Nat) : Int), 0) by
    rw [childrenL, if_neg (by simp [hz]), if_pos (by simp only [choiceB, Int.toNat_natCast, decide_eq_true_eq]; omega)]; simp)
  have HM1 := hid (show (((X &&& Y : Nat) : Int), ((comN n rows (X &&& Y) rows.length : Nat) : Int)) ∈ pairsTo n rows (2 ^ rows.length) from
    (mem_pairsTo _ _ _ _).2 ⟨_, hab, pair_below n rows X Y _ hX hY eX eY, rfl⟩)
  have HM2 := hid (show (((eatN rows (comN n rows X rows.length &&& comN n rows Y rows.length) rows.length : Nat) : Int), ((comN n rows X rows.length &&& comN n rows Y rows.length : Nat) : Int)) ∈ pairsTo n rows (2 ^ rows.length) from
    (mem_pairsTo _ _ _ _).2 ⟨_, eatN_lt n rows _ _ hcc, by rw [pair_above n rows X Y _ eX eY], by rw [pair_above n rows X Y _ eX eY]⟩)
  have HO := hid (pair_order n rows X Y _ eX eY)
  have HA := hid (i64_and_n X Y (by omega) (by omega))
  have HD := hid (fun (w' : World) (hI : Ints w' a rows) => dishes_any a rows cap (n : Int) ((X &&& Y : Nat) : Int) w' hI)
  have HC := hid (fun (w' : World) (hI : Ints w' a rows) => children_any a rows cap (n : Int) ((comN n rows X rows.length &&& comN n rows Y rows.length : Nat) : Int) w' hI)
  rw [HDv.out] at HD
  rw [HCv.out] at HC
  clear HDv HCv eX eY hrr
  generalize comN n rows X rows.length = cX at *
  generalize comN n rows Y rows.length = cY at *
  have HB := hid (i64_and_n cX cY (by omega) (by omega))
  generalize comN n rows (X &&& Y) rows.length = D at *
  generalize eatN rows (cX &&& cY) rows.length = E at *
  generalize pairsTo n rows (2 ^ rows.length) = l at *
  have hB0 := ((Below.refl w.heap.size w).alloc (Nat.le_refl _) (.cells #[.int .i64 X, .int .i64 cX] 58)).alloc (by simp) (.cells #[.int .i64 Y, .int .i64 cY] 58)
  have hI0 := hI.below hB0
  have hP0 := hP.below hB0
  clear hI hP
  go_enter Try.func20, Try.ntmps20
  go_wp2_with fail
  rw [HA.out]
  refine (HD.out _ hI0).mono ?_
  rintro e w1 ⟨q1, rfl⟩
  have p1 := hB0.trans (q1.mono (by simp; omega))
  have hs1 := q1.size
  simp only [World.size_alloc] at hs1
  have a0 : w1.cell? ⟨w.heap.size, 0, none⟩ = some (.int .i64 X) := by rw [q1.cell (by simp; omega)]; go_simp
  have a1 : w1.cell? ⟨w.heap.size, 1, none⟩ = some (.int .i64 cX) := by rw [q1.cell (by simp; omega)]; go_simp
  have b0 : w1.cell? ⟨w.heap.size + 1, 0, none⟩ = some (.int .i64 Y) := by rw [q1.cell (by simp)]; go_simp
  have b1 : w1.cell? ⟨w.heap.size + 1, 1, none⟩ = some (.int .i64 cY) := by rw [q1.cell (by simp)]; go_simp
  have hI1 := hI0.up q1 (by simp)
  have hP1 := hP0.below q1
  clear hB0 hI0 hP0 q1 HD
  go_wp2_with fail
  rw [HB.out]
  refine (HC.out _ hI1).mono ?_
  rintro e w2 ⟨q2, rfl⟩
  have p2 := p1.trans (q2.mono p1.size)
  have hs2 := q2.size
  have a0' : w2.cell? ⟨w.heap.size, 0, none⟩ = some (.int .i64 X) := by rw [q2.cell (by simp; omega)]; exact a0
  have a1' : w2.cell? ⟨w.heap.size, 1, none⟩ = some (.int .i64 cX) := by rw [q2.cell (by simp; omega)]; exact a1
  have b0' : w2.cell? ⟨w.heap.size + 1, 0, none⟩ = some (.int .i64 Y) := by rw [q2.cell (by simp; omega)]; exact b0
  have b1' : w2.cell? ⟨w.heap.size + 1, 1, none⟩ = some (.int .i64 cY) := by rw [q2.cell (by simp; omega)]; exact b1
  have hP2 := hP1.below q2
  have hw0 : w.heap.size < w2.heap.size := by omega
  have hw1 : w.heap.size + 1 < w2.heap.size := by omega
  clear hI1 hP1 q2 HC a0 a1 b0 b1 p1 hs1 hs2
  go_upto_region 5 with (fail)
  go_cut [15, 16] (fun s15 s16 wx => ∃ g h : Nat, s15 = .pointer (some ⟨g, 0, none⟩) ∧ s16 = .pointer (some ⟨h, 0, none⟩) ∧ Below w2.heap.size w2 wx ∧ wx.cell? ⟨g, 0, none⟩ = some (.int .i64 ((X &&& Y : Nat) : Int)) ∧ wx.cell? ⟨g, 1, none⟩ = some (.int .i64 D) ∧
    wx.cell? ⟨h, 0, none⟩ = some (.int .i64 E) ∧ wx.cell? ⟨h, 1, none⟩ = some (.int .i64 ((cX &&& cY : Nat) : Int)))
  case first =>
    go_region
    all_goals
      go_wp2_with fail
      go_meet
      case rel =>
        rw [HA.out, HB.out]
        exact ⟨_, _, rfl, rfl, ((((Below.refl _ _).alloc (Nat.le_refl _) _).alloc (by simp) _).drew), by go_simp, by go_simp, by go_simp, by go_simp⟩
  case rest =>
    obtain ⟨g, h, rfl, rfl, q3, g0, g1, h0, h1⟩ := hcut
    have p3 := p2.trans (q3.mono p2.size)
    have hs3 := q3.size
    have a0 : wc.cell? ⟨w.heap.size, 0, none⟩ = some (.int .i64 X) := by rw [q3.cell (by simp; omega)]; exact a0'
    have a1 : wc.cell? ⟨w.heap.size, 1, none⟩ = some (.int .i64 cX) := by rw [q3.cell (by simp; omega)]; exact a1'
    have b0 : wc.cell? ⟨w.heap.size + 1, 0, none⟩ = some (.int .i64 Y) := by rw [q3.cell (by simp; omega)]; exact b0'
    have b1 : wc.cell? ⟨w.heap.size + 1, 1, none⟩ = some (.int .i64 cY) := by rw [q3.cell (by simp; omega)]; exact b1'
    have hP3 := hP2.below q3
    have HE := hid (show ((bits .and .i64 (X : Int) (Y : Int) == (X : Int)) == (bits .and .i64 (cX : Int) (cY : Int) == (cY : Int))) = true by
      rw [HA.out, HB.out, beq_iff_eq, Bool.eq_iff_iff, beq_iff_eq, beq_iff_eq, Int.natCast_inj, Int.natCast_inj]
      exact HO.out)
    clear hP2 q3 p2 hs3 hw0 hw1 a0' a1' b0' b1' HO HA HB
    generalize X &&& Y = M1 at *
    generalize cX &&& cY = M2 at *
    go_wp2
    go_loopw [17, 18] (fun f i wr => ∃ k m : Nat, k ≤ l.length ∧ i = .int .i64 k ∧ f = .int .i64 ((fnd (decide (((M1 : Int), (D : Int)) ∈ l.take k)) (decide (((E : Int), (M2 : Int)) ∈ l.take k)) : Nat) : Int) ∧ wr = wc.drewN m) (fun _ i _ => l.length - (intOf i).toNat)
    case atStart => exact ⟨0, 0, Nat.zero_le _, rfl, by simp [fnd], by simp [World.drewN]⟩
    case round =>
      obtain ⟨k, m, hk, rfl, rfl, rfl⟩ := hrel
      by_cases hlt : k < l.length
      · rcases hP3.at_ with e | ⟨b, off, rfl, hc⟩
        · rw [e] at hlt; simp at hlt
        obtain ⟨c0, c1⟩ := hc k hlt
        have HT := hid (show l.take (k + 1) = l.take k ++ [l[k]?.getD (0, 0)] by rw [List.take_add_one, List.getElem?_eq_getElem hlt]; simp)
        clear hc
        generalize l[k]?.getD (0, 0) = q at *
        obtain ⟨x, y⟩ := q
        dsimp only at c0 c1
        have HM1' := hid (mem_snoc (l.take k) ((M1 : Int), (D : Int)) (x, y))
        have HM2' := hid (mem_snoc (l.take k) ((E : Int), (M2 : Int)) (x, y))
        rw [← HT.out] at HM1' HM2'
        dsimp only at HM1' HM2'
        generalize decide (((M1 : Int), (D : Int)) ∈ l.take k) = f1 at *
        generalize decide (((E : Int), (M2 : Int)) ∈ l.take k) = f2 at *
        have hq1 : ∀ w : World, _ = _ := fun w => eq_pair w x y (M1 : Int) (D : Int)
        have hq2 : ∀ w : World, _ = _ := fun w => eq_pair w x y (E : Int) (M2 : Int)
        have HF1 := hid (fnd_one f1 f2)
        have HF2 := hid (fnd_two f1 f2)
        have HF3 := hid (fnd_two true f2)
        cases t1 : (x == (M1 : Int) && y == (D : Int)) <;> cases t2 : (x == (E : Int) && y == (M2 : Int))
        all_goals
          rw [t1] at HM1' hq1
          rw [t2] at HM2' hq2
          clear t1 t2
          go_wp2
          go_quiet (fail)
          go_wp2
          go_quiet (fail)
          go_wp2
          go_roundw
          case rel =>
            refine ⟨k + 1, _, by omega, by go_num, ?_, rfl⟩
            rw [HM1'.out, HM2'.out]
            first | (rw [HF1.out, HF3.out]; simp) | (rw [HF1.out]; simp) | (rw [HF2.out]; simp) | simp
          case measure => simp [intOf]; omega
      · obtain rfl : k = l.length := by omega
        rw [List.take_length]
        have e1 : decide (((M1 : Int), (D : Int)) ∈ l) = true := by rw [decide_eq_true_iff]; exact HM1.out
        have e2 : decide (((E : Int), (M2 : Int)) ∈ l) = true := by rw [decide_eq_true_iff]; exact HM2.out
        rw [e1, e2, show ((fnd true true : Nat) : Int) = 3 from rfl]
        clear e1 e2
        go_wp2
        go_ret
        exact ⟨below_drewN p3 _, ret_bool HE.out⟩
end Go.Proofs.Ytongejajkifccab
