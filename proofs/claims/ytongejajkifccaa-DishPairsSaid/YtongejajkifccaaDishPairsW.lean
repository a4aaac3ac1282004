/- The law DishPairs: its walk. -/
import Derived.Test.YtongejajkifccaaRPairs
import Derived.Test.YtongejajkifccaaDishTablesW
import Derived.Test.YtongejajkifccaaEqPair
import Derived.Deep.QuietTactic
import Derived.BigQuiet
set_option linter.unusedVariables false
namespace Go.Proofs.Ytongejajkifccaa
open Go.RowKit

theorem getP_mem (l : List (Int × Int)) (k : Nat) (h : k < l.length) : l[k]?.getD (0, 0) ∈ l := by
  rw [List.getElem?_eq_getElem h]; simp
theorem childrenL_com (rows : List Int) (n m : Nat) (hz : validTab rows (n : Int) = 0) : childrenL rows (n : Int) ((comN n rows m rows.length : Nat) : Int) = (((eatN rows (comN n rows m rows.length) rows.length : Nat) : Int), 0) := by
  have h1 := comN_lt n rows m rows.length
  rw [childrenL, if_neg (by simp [hz]), if_pos (by simp only [choiceB, Int.toNat_natCast, decide_eq_true_eq]; omega)]
  simp
theorem pairsR_len (rows : List Int) (d : Int) : (pairsR rows d).1.length ≤ 256 := by
  unfold pairsR
  split
  · simp
  · rename_i hz
    obtain ⟨_, _, hr8, _⟩ := validTab_ok (by simpa using hz)
    have hp : 2 ^ rows.length ≤ 256 := Nat.pow_le_pow_right (n := 2) (by omega) hr8
    have := pairsTo_len d.toNat rows (2 ^ rows.length)
    simp; omega
theorem pairsR_ok {rows : List Int} {d : Int} (h : validTab rows d = 0) : pairsR rows d = (pairsTo d.toNat rows (2 ^ rows.length), 0) := by rw [pairsR, if_neg (by simp [h])]
/-- What the law's last loop asks of one pair. -/
def pairB (c d ch : Int) (p : Int × Int) : Bool := decide (p = (c, d))

set_option maxRecDepth 100000 in
set_option maxHeartbeats 8000000 in
theorem dishPairs_walk (a : Option Addr) (rows : List Int) (cap : Nat) (d s : Int) (w : World) (h1 : rows.length ≤ 9223372036854775807) (hT : rows.length ≤ 140737488355328 → Ints w a rows) :
  Calls Try.prog 14 #[.slice a rows.length cap, .int .i64 d, .int .i64 s] w (BoolR w true) := by
  by_cases hl : 60 < rows.length
  · have hl' : (60 : Int) < (rows.length : Int) := by omega
    go_enter Try.func14, Try.ntmps14
    go_wp2_with fail
    refine (knownD_any _).mono ?_
    rintro e w2 ⟨q2, rfl⟩
    go_wp2
    go_ret
    exact ⟨q2, rfl⟩
  · have hL := hT (by omega)
    have hl' : (rows.length : Int) ≤ 60 := by omega
    clear hT
    have HP := hid (fun (w' : World) (hI : Ints w' a rows) => pairs_any a rows cap d w' hI)
    have HRP := hid (fun (w' : World) (hI : Ints w' a rows) => rpairs_any a rows cap d w' hI)
    have HD := hid (fun (w' : World) (hI : Ints w' a rows) => dishes_any a rows cap d s w' hI)
    have HC := hid (fun (s : Int) (w' : World) (hI : Ints w' a rows) => children_any a rows cap d s w' hI)
    have HOk := hid (fun h => dishesL_ok (rows := rows) (d := d) (s := s) h)
    have HPk := hid (fun h => pairsR_ok (rows := rows) (d := d) h)
    have hml := pairsR_len rows d
    generalize pairsR rows d = pr at *
    obtain ⟨ms, er⟩ := pr
    have hbe : (er == er) = true := by simp
    have hbe2 : (er != er) = false := by simp
    dsimp only at hml
    go_enter Try.func14, Try.ntmps14
    go_wp2_with fail
    refine (HP.out _ hL).mono ?_
    rintro e w1 ⟨p1, A, c, rfl, o1⟩
    go_wp2_with fail
    refine (HRP.out _ (hL.below p1)).mono ?_
    rintro e w2 ⟨q2, A2, c2, rfl, o2⟩
    have p2 := p1.trans (q2.mono p1.size)
    dsimp only at o1 o2
    have i1 := (o1.at_ (by omega)).below q2
    have i2 := o2.at_ (by omega)
    clear o1 o2 q2 p1 HP HRP
    go_wp2
    go_loopw [11] (fun i wr => ∃ k : Nat, k ≤ ms.length ∧ i = .int .i64 k ∧ Below w.heap.size w wr ∧ PairsAt wr A ms ∧ PairsAt wr A2 ms) (fun i _ => ms.length - (intOf i).toNat)
    case atStart => exact ⟨0, Nat.zero_le _, rfl, p2, i1, i2⟩
    case round =>
      clear p2 i1 i2
      obtain ⟨k, hk, rfl, p2, i1, i2⟩ := hrel
      by_cases hlt : k < ms.length
      · rcases i1.at_ with e | ⟨b1, f1, rfl, hc1⟩
        · rw [e] at hlt; simp at hlt
        rcases i2.at_ with e | ⟨b2, f2, rfl, hc2⟩
        · rw [e] at hlt; simp at hlt
        obtain ⟨c0, c1⟩ := hc1 k hlt
        obtain ⟨d0, d1⟩ := hc2 k hlt
        clear hc1 hc2
        generalize (ms[k]?.getD (0, 0)).1 = x at *
        generalize (ms[k]?.getD (0, 0)).2 = y at *
        have hq : ∀ w : World, _ = _ := fun w => eq_pair w x y x y
        simp only [beq_self_eq_true, Bool.and_self] at hq
        go_wp2
        go_quiet (fail)
        go_wp2
        go_roundw
        case rel =>
          have hD : ∀ n, Below wr.heap.size wr (wr.drewN n) := fun n => below_drewN (Below.refl _ _) _
          exact ⟨k + 1, by omega, by go_num, p2.trans ((hD _).mono p2.size), i1.below (hD _), i2.below (hD _)⟩
        case measure => simp [intOf]; omega
      · obtain rfl : k = ms.length := by omega
        go_wp2_with fail
        refine (HD.out _ (hL.below p2)).mono ?_
        rintro e w3 ⟨q3, rfl⟩
        have p3 := p2.trans (q3.mono p2.size)
        have i1 := i1.below q3
        go_wp2_with fail
        refine (HC.out _ _ (hL.below p3)).mono ?_
        rintro e w4 ⟨q4, rfl⟩
        have p4 := p3.trans (q4.mono p3.size)
        have i1 := i1.below q4
        clear p2 i2 q3 p3 q4 hlt HD
        by_cases hz : (dishesL rows d s).2 = 0
        · obtain ⟨n, m, rfl, rfl, hn, hr8, hm, hvt, hpd⟩ := HOk.out hz
          have hmp := HPk.out hvt
          rw [Int.toNat_natCast] at hmp
          simp only [Prod.mk.injEq] at hmp
          obtain ⟨hms, rfl⟩ := hmp
          have hch := childrenL_com rows n m hvt
          rw [hpd, hz, hch]
          have hp8 : 2 ^ rows.length ≤ 256 := Nat.pow_le_pow_right (n := 2) (by omega) hr8
          have hF := hid (pair_found n rows m hm)
          rw [← hms] at hF
          have hX := hid (pair_ext n rows m hm)
          have hLs := hid (fun x => pair_least n rows m x)
          have hMem := hid (fun p => mem_pairsTo n rows (2 ^ rows.length) p)
          rw [← hms] at hMem
          have hcl : eatN rows (comN n rows m rows.length) rows.length < 2 ^ rows.length := eatN_lt n rows _ _ (comN_lt n rows m _)
          clear hch hpd hz HOk HPk hms
          generalize comN n rows m rows.length = dN at *
          generalize eatN rows dN rows.length = cN at *
          go_wp2
          go_loopw [16, 17] (fun f i wr => ∃ k : Nat, k ≤ ms.length ∧ i = .int .i64 k ∧ f = .bool (decide (((cN : Int), (dN : Int)) ∈ ms.take k)) ∧ Below w.heap.size w wr ∧ PairsAt wr A ms) (fun _ i _ => ms.length - (intOf i).toNat)
          case atStart => exact ⟨0, Nat.zero_le _, rfl, by simp, p4, i1⟩
          case round =>
            clear p4 i1
            obtain ⟨k, hk, rfl, rfl, p4, i1⟩ := hrel
            by_cases hlt : k < ms.length
            · rcases i1.at_ with e | ⟨b1, f1, rfl, hc1⟩
              · rw [e] at hlt; simp at hlt
              obtain ⟨c0, c1⟩ := hc1 k hlt
              have hin := getP_mem ms k hlt
              have HT := hid (show ms.take (k + 1) = ms.take k ++ [ms[k]?.getD (0, 0)] by rw [List.take_add_one, List.getElem?_eq_getElem hlt]; simp)
              obtain ⟨X, hX1, hX2, hX3⟩ := (hMem.out _).1 hin
              rw [hX3] at HT c0 c1
              have HLX := hid (hLs.out X hX2)
              dsimp only at c0 c1
              clear hc1 hin hX2 hX3
              generalize comN n rows X rows.length = Y at *
              by_cases he : X = cN ∧ Y = dN
              · obtain ⟨rfl, rfl⟩ := he
                have hq : ∀ w : World, _ = _ := fun w => eq_pair w X Y X Y
                simp only [beq_self_eq_true, Bool.and_self] at hq
                have HD2 := hid (show decide (((X : Int), (Y : Int)) ∈ ms.take (k + 1)) = true by rw [HT.out]; simp)
                go_wp2
                go_roundw
                case rel => exact ⟨k + 1, by omega, by go_num, by rw [HD2.out], p4, i1⟩
                case measure => simp [intOf]; omega
              · have hq : ∀ w : World, _ = _ := fun w => eq_pair w X Y cN dN
                rw [show ((X : Int) == (cN : Int) && (Y : Int) == (dN : Int)) = false by
                  rw [Bool.and_eq_false_iff, beq_eq_false_iff_ne, beq_eq_false_iff_ne]
                  by_cases h : X = cN
                  · right; intro hh; exact he ⟨h, by omega⟩
                  · left; omega] at hq
                have HD2 := hid (show decide (((cN : Int), (dN : Int)) ∈ ms.take (k + 1)) = decide (((cN : Int), (dN : Int)) ∈ ms.take k) by
                  rw [HT.out, decide_eq_decide]
                  constructor
                  · intro h
                    rcases List.mem_append.1 h with h | h
                    · exact h
                    · simp at h; exact absurd ⟨by omega, by omega⟩ he
                  · intro h; exact List.mem_append_left _ h)
                have HA := hid (i64_and_n X m (by omega) (by omega))
                have HB := hid (i64_and_n X cN (by omega) (by omega))
                generalize decide (((cN : Int), (dN : Int)) ∈ ms.take k) = fb at *
                by_cases hs : X &&& m = m
                · have hs1 : (bits .and .i64 (X : Int) (m : Int) == (m : Int)) = true := by rw [HA.out, hs]; simp
                  have hs2 : (bits .and .i64 (X : Int) (cN : Int) != (cN : Int)) = false := by rw [HB.out, HLX.out hs]; simp
                  clear he hs
                  go_wp2
                  go_roundw
                  case rel => exact ⟨k + 1, by omega, by go_num, by rw [HD2.out], p4, i1⟩
                  case measure => simp [intOf]; omega
                · have hs1 : (bits .and .i64 (X : Int) (m : Int) == (m : Int)) = false := by rw [HA.out]; simp; omega
                  clear he hs
                  go_wp2
                  go_roundw
                  case rel => exact ⟨k + 1, by omega, by go_num, by rw [HD2.out], p4, i1⟩
                  case measure => simp [intOf]; omega
            · obtain rfl : k = ms.length := by omega
              have hfd : decide (((cN : Int), (dN : Int)) ∈ ms.take ms.length) = true := by rw [List.take_length, decide_eq_true_iff]; exact hF.out
              rw [hfd]
              have hs1 : (bits .and .i64 (cN : Int) (m : Int) == (m : Int)) = true := by rw [i64_and_n cN m (by omega) (by omega), hX.out]; simp
              clear hfd i1
              go_wp2_with fail
              refine (knownD_any _).mono ?_
              rintro e w7 ⟨q7, rfl⟩
              go_wp2
              go_ret
              exact ⟨p4.trans (q7.mono p4.size), rfl⟩
        · have hz' : ((dishesL rows d s).2 != 0) = true := by simp [hz]
          clear hz HOk HPk i1
          generalize childrenL rows d (dishesL rows d s).1 = pc at *
          generalize dishesL rows d s = pd at *
          obtain ⟨pc1, pc2⟩ := pc
          obtain ⟨pd1, pd2⟩ := pd
          dsimp only at hz' ⊢
          by_cases he : er = 0
          · have he' : (er != 0) = false := by simp [he]
            clear he
            go_wp2_with fail
            refine (knownD_any _).mono ?_
            rintro e w7 ⟨q7, rfl⟩
            go_wp2
            go_ret
            exact ⟨p4.trans (q7.mono p4.size), rfl⟩
          · have he' : (er != 0) = true := by simp [he]
            clear he
            go_wp2_with fail
            refine (knownD_any _).mono ?_
            rintro e w7 ⟨q7, rfl⟩
            go_wp2
            go_ret
            exact ⟨p4.trans (q7.mono p4.size), rfl⟩

end Go.Proofs.Ytongejajkifccaa
