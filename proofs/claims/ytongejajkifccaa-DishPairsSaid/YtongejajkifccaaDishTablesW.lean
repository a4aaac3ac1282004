/- The law DishTables: its walk. -/
import Derived.Test.YtongejajkifccaaRTabPub
import Derived.Test.YtongejajkifccaaKnownD
set_option linter.unusedVariables false
namespace Go.Proofs.Ytongejajkifccaa
open Go.RowKit

theorem dishesL_ok {rows : List Int} {d s : Int} (h : (dishesL rows d s).2 = 0) : ∃ n m : Nat, d = n ∧ s = m ∧ n ≤ 8 ∧ rows.length ≤ 8 ∧ m < 2 ^ rows.length ∧ validTab rows d = 0 ∧ (dishesL rows d s).1 = ((comN n rows m rows.length : Nat) : Int) := by
  by_cases hz : validTab rows d = 0
  · obtain ⟨h0, h8, hr8, hrr⟩ := validTab_ok hz
    obtain ⟨n, rfl⟩ := Int.eq_ofNat_of_zero_le h0
    by_cases hs : choiceB s rows.length = true
    · have h1 : 0 ≤ s ∧ s < ((2 ^ rows.length : Nat) : Int) := by simpa [choiceB] using hs
      obtain ⟨m, rfl⟩ := Int.eq_ofNat_of_zero_le h1.1
      exact ⟨n, m, rfl, rfl, by omega, hr8, by omega, hz, by rw [dishesL, if_neg (by simp [hz]), if_pos hs]; simp⟩
    · rw [dishesL, if_neg (by simp [hz]), if_neg hs] at h
      simp at h
  · rw [dishesL, if_pos hz] at h
    exact absurd h hz
theorem dishesL_less (rows : List Int) (n m : Nat) (hm : m < 2 ^ rows.length) (hz : validTab rows (n : Int) = 0) : dishesL rows (n : Int) ((m &&& (m - 1) : Nat) : Int) = (((comN n rows (m &&& (m - 1)) rows.length : Nat) : Int), 0) := by
  have h1 : m &&& (m - 1) < 2 ^ rows.length := Nat.lt_of_le_of_lt Nat.and_le_left hm
  rw [dishesL, if_neg (by simp [hz]), if_pos (by simp only [choiceB, Int.toNat_natCast, decide_eq_true_eq]; omega)]
  simp

set_option maxRecDepth 100000 in
set_option maxHeartbeats 8000000 in
theorem dishTables_walk (a : Option Addr) (rows : List Int) (cap : Nat) (d s : Int) (w : World) (h1 : rows.length ≤ 9223372036854775807) (hT : rows.length ≤ 140737488355328 → Ints w a rows) :
  Calls Try.prog 13 #[.slice a rows.length cap, .int .i64 d, .int .i64 s] w (BoolR w true) := by
  by_cases hl : 60 < rows.length
  · have hl' : (60 : Int) < (rows.length : Int) := by omega
    go_enter Try.func13, Try.ntmps13
    go_wp2_with fail
    refine (knownD_any _).mono ?_
    rintro e w2 ⟨q2, rfl⟩
    go_wp2
    go_ret
    exact ⟨q2, rfl⟩
  · have hL := hT (by omega)
    have hl' : (rows.length : Int) ≤ 60 := by omega
    clear hT
    have HD := hid (fun (w' : World) (hI : Ints w' a rows) => dishes_any a rows cap d s w' hI)
    have HC := hid (fun (w' : World) (hI : Ints w' a rows) => children_any a rows cap d s w' hI)
    have HRD := hid (fun (w' : World) (hI : Ints w' a rows) => rdishes_any a rows cap d s w' hI)
    have HRC := hid (fun (w' : World) (hI : Ints w' a rows) => rchildren_any a rows cap d s w' hI)
    have HV := hid (fun (w' : World) (hI : Ints w' a rows) => validTab_any a rows cap d w' hI)
    have HRV := hid (fun (w' : World) (hI : Ints w' a rows) => rvalidTab_any a rows cap d w' hI)
    have HOk := hid (fun h => dishesL_ok (rows := rows) (d := d) (s := s) h)
    generalize dishesL rows d s = pd at *
    generalize childrenL rows d s = pc at *
    generalize hvt : validTab rows d = vt at *
    obtain ⟨pd1, pd2⟩ := pd
    obtain ⟨pc1, pc2⟩ := pc
    have e1 : (pd1 == pd1) = true := by simp
    have e2 : (pd2 == pd2) = true := by simp
    have e3 : (pc1 == pc1) = true := by simp
    have e4 : (pc2 == pc2) = true := by simp
    have e5 : (vt == vt) = true := by simp
    have f1 : (pd1 != pd1) = false := by simp
    have f2 : (pd2 != pd2) = false := by simp
    have f3 : (pc1 != pc1) = false := by simp
    have f4 : (pc2 != pc2) = false := by simp
    have f5 : (vt != vt) = false := by simp
    go_enter Try.func13, Try.ntmps13
    go_wp2_with fail
    refine (HD.out _ hL).mono ?_
    rintro e w1 ⟨p1, rfl⟩
    go_wp2_with fail
    refine (HRD.out _ (hL.below p1)).mono ?_
    rintro e w2 ⟨q2, rfl⟩
    have p2 := p1.trans (q2.mono p1.size)
    go_wp2_with fail
    refine (HC.out _ (hL.below p2)).mono ?_
    rintro e w3 ⟨q3, rfl⟩
    have p3 := p2.trans (q3.mono p2.size)
    go_wp2_with fail
    refine (HRC.out _ (hL.below p3)).mono ?_
    rintro e w4 ⟨q4, rfl⟩
    have p4 := p3.trans (q4.mono p3.size)
    go_wp2_with fail
    refine (HV.out _ (hL.below p4)).mono ?_
    rintro e w' ⟨rfl, rfl⟩
    go_wp2_with fail
    refine (HRV.out _ (hL.below p4)).mono ?_
    rintro e w5 ⟨q5, rfl⟩
    have p5 := p4.trans (q5.mono p4.size)
    clear q2 q3 q4 q5 p1 p2 p3 p4
    by_cases hz : pd2 = 0 ∧ 0 < s
    · obtain ⟨rfl, hs⟩ := hz
      obtain ⟨n, m, rfl, rfl, hn, hr8, hm, hz, hpd⟩ := HOk.out rfl
      subst hpd
      subst hz
      have hp8 : 2 ^ rows.length ≤ 256 := Nat.pow_le_pow_right (n := 2) (by omega) hr8
      have HA := hid (show bits .and .i64 (m : Int) ((m : Int) - 1) = ((m &&& (m - 1) : Nat) : Int) by
        have : ((m : Int) - 1) = ((m - 1 : Nat) : Int) := by omega
        rw [this, i64_and_n m _ (by omega) (by omega)])
      have HL := hid (dishesL_less rows n m hm hvt)
      have HX := hid (fun (w' : World) (hI : Ints w' a rows) => dishes_any a rows cap (n : Int) ((m &&& (m - 1) : Nat) : Int) w' hI)
      have hc1 := comN_lt n rows (m &&& (m - 1)) rows.length
      have hc2 := comN_lt n rows m rows.length
      have hpn : 2 ^ n ≤ 256 := Nat.pow_le_pow_right (n := 2) (by omega) hn
      have hmono := comN_mono n rows m (m &&& (m - 1)) rows.length (fun c hc => by
        rw [Nat.testBit_and, Bool.and_eq_true] at hc; exact hc.1)
      have HE := hid (show bits .and .i64 ((comN n rows (m &&& (m - 1)) rows.length : Nat) : Int) ((comN n rows m rows.length : Nat) : Int) = ((comN n rows m rows.length : Nat) : Int) by
        rw [i64_and_n _ _ (by omega) (by omega), hmono])
      clear hmono hc1 hc2
      go_wp2_with fail
      rw [HA.out]
      refine (HX.out _ (hL.below p5)).mono ?_
      rintro e w6 ⟨q6, rfl⟩
      have p6 := p5.trans (q6.mono p5.size)
      rw [HL.out]
      have hE1 := HE.out
      generalize comN n rows (m &&& (m - 1)) rows.length = c1 at *
      generalize comN n rows m rows.length = c2 at *
      go_wp2_with fail
      refine (knownD_any _).mono ?_
      rintro e w7 ⟨q7, rfl⟩
      go_wp2
      go_ret
      exact ⟨p6.trans (q7.mono p6.size), rfl⟩
    · by_cases h0 : pd2 = 0
      · have hs : ¬ 0 < s := fun hh => hz ⟨h0, hh⟩
        clear hz
        subst h0
        go_wp2_with fail
        refine (knownD_any _).mono ?_
        rintro e w7 ⟨q7, rfl⟩
        go_wp2
        go_ret
        exact ⟨p5.trans (q7.mono p5.size), rfl⟩
      · have h0' : (pd2 == 0) = false := by simp [h0]
        clear hz h0
        go_wp2_with fail
        refine (knownD_any _).mono ?_
        rintro e w7 ⟨q7, rfl⟩
        go_wp2
        go_ret
        exact ⟨p5.trans (q7.mono p5.size), rfl⟩

end Go.Proofs.Ytongejajkifccaa
