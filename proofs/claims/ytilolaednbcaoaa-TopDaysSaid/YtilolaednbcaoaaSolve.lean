/- The Go functions modulo, checkLines, join and Solve of package term. -/
import Derived.Test.YtilolaednbcaoaaGcd
import Derived.Test.YtilolaednbcaoaaSolveM
set_option linter.unusedVariables false
namespace Go.Proofs.Ytilolaednbcaoaa
open Go.RowKit

set_option maxHeartbeats 400000 in
theorem modulo_any (x n : Int) (w : World) (hn : 1 ≤ n) (hn2 : n ≤ 1000000000000000000) (hx : -9223372036854775808 ≤ x) (hx2 : x ≤ 9223372036854775807) :
  Calls Try.prog 60 #[.int .i64 x, .int .i64 n] w fun en w' => w = w' ∧ en = .returned (.int .i64 (x % n)) := by
  have h0 : (n == 0) = false := by simp; omega
  have hb := tmod_bd x n hn
  have HE := hid (tmod_add_emod x n hn)
  go_enter Try.func60, Try.ntmps60
  go_wp2
  go_ret
  exact ⟨rfl, ret_int HE.out⟩

structure Lines (w : World) (a : Option Addr) (ls : List (Int × Int)) : Prop where
  len : ls.length ≤ 140737488355328
  at_ : ls = [] ∨ ∃ b off, a = some ⟨b, off, none⟩ ∧ ∀ i, i < ls.length → w.cell? ⟨b, off + i * 2, none⟩ = some (.int .i64 (ls[i]?.getD (0, 0)).1) ∧ w.cell? ⟨b, off + i * 2 + 1, none⟩ = some (.int .i64 (ls[i]?.getD (0, 0)).2)
  bd : ∀ x ∈ ls, (-9223372036854775808 ≤ x.1 ∧ x.1 ≤ 9223372036854775807) ∧ -9223372036854775808 ≤ x.2 ∧ x.2 ≤ 9223372036854775807

set_option maxRecDepth 100000 in
set_option maxHeartbeats 1000000 in
theorem checkLines_any (a : Option Addr) (ls : List (Int × Int)) (cap : Nat) (w : World) (hl : Lines w a ls) :
  Calls Try.prog 59 #[.slice a ls.length cap] w fun en w' => Below w.heap.size w w' ∧ en = .returned (.int .i64 (checkL ls)) := by
  have hlen := hl.len
  by_cases h6 : 6 < ls.length
  · have hd : (6 : Int) < (ls.length : Int) := by omega
    go_enter Try.func59, Try.ntmps59
    go_wp2
    go_ret
    exact ⟨Below.refl _ _, ret_int (by simp [checkL, h6])⟩
  · go_enter Try.func59, Try.ntmps59
    go_wp2
    go_loopw [15] (fun i wr => ∃ k : Nat, k ≤ ls.length ∧ i = .int .i64 k ∧ Hid (anyBad ls = anyBad (ls.drop k)) ∧ Below w.heap.size w wr) (fun i _ => ls.length - (intOf i).toNat)
    case atStart => exact ⟨0, Nat.zero_le _, rfl, rfl, Below.refl _ _⟩
    case round =>
      obtain ⟨k, hk, rfl, HA, hB⟩ := hrel
      by_cases hlt : k < ls.length
      · rcases hl.at_ with e | ⟨b, off, rfl, hc⟩
        · rw [e] at hlt; simp at hlt
        have h1 := (hc k hlt).1
        have h2 := (hc k hlt).2
        have hbl := cell_lt h1
        obtain ⟨hb1, hb2⟩ := bcell hB
        clear hc
        have HD := hid (anyBad_drop ls k hlt)
        generalize ls[k]?.getD (0, 0) = x at *
        go_wp2
        · have h2 : x.2 < 1 ∨ 100000 < x.2 := by assumption
          go_ret
          exact ⟨hB.alloc hB.size _, ret_int (by rw [checkL, if_neg h6, HA.out, HD.out]; simp [badModulus, h2])⟩
        · have h2 : 1 ≤ x.2 ∧ x.2 ≤ 100000 := by assumption
          go_roundw
          case rel => exact ⟨k + 1, by omega, by go_num, by unfold Hid; rw [HA.out, HD.out]; simp [badModulus]; omega, hB.alloc hB.size _⟩
          case measure => simp [intOf]; omega
        · have h2 : x.2 < 1 := by assumption
          go_ret
          exact ⟨hB.alloc hB.size _, ret_int (by rw [checkL, if_neg h6, HA.out, HD.out]; simp [badModulus, h2])⟩
      · have HB := hid (show anyBad ls = false by rw [HA.out, List.drop_of_length_le (by omega)]; rfl)
        clear HA
        go_wp2
        obtain ⟨wo, rfl⟩ : ∃ wo : World, wo = wr := ⟨_, rfl⟩
        go_loopw [5, 30] (fun m i wr => ∃ (k : Nat) (m' : Int), k ≤ ls.length ∧ i = .int .i64 k ∧ m = .int .i64 m' ∧ 1 ≤ m' ∧ m' ≤ 1099511627776 ∧ Hid (lcmTo 1 ls = lcmTo m' (ls.drop k)) ∧ Below w.heap.size w wr) (fun _ i _ => ls.length - (intOf i).toNat)
        case atStart => exact ⟨0, 1, Nat.zero_le _, rfl, rfl, by omega, by omega, rfl, hB⟩
        case round =>
          clear hk hB hlt
          obtain ⟨k, m, hk, rfl, rfl, hm1, hm2, HA, hB⟩ := hrel
          by_cases hlt : k < ls.length
          · rcases hl.at_ with e | ⟨b, off, rfl, hc⟩
            · rw [e] at hlt; simp at hlt
            have h1 := (hc k hlt).1
            have h2 := (hc k hlt).2
            have hbl := cell_lt h1
            obtain ⟨hb1, hb2⟩ := bcell hB
            clear hc
            have HD := hid (lcmTo_drop m ls k hlt)
            have hbd := anyBad_false ls HB.out k hlt
            generalize ls[k]?.getD (0, 0) = x at *
            have hp := part_bd m x.2 hm1 hbd.1
            have hg1 := (egcd_facts m x.2 hm1 hbd.1).1
            have hmul := mul_bd m (x.2 / (egcd m x.2 1 0).1) 1099511627776 100000 hm1 hm2 hp.1 (by omega)
            go_wp2_with fail
            refine (gcd_any _ _ _ hm1 hbd.1 (by omega) (by omega)).mono ?_
            rintro e w' ⟨n, rfl, rfl⟩
            go_wp2
            · have h2 : 1099511627776 < m * (x.2 / (egcd m x.2 1 0).1) := by assumption
              go_ret
              exact ⟨below_drewN (hB.alloc hB.size _) n, ret_int (by rw [checkL, if_neg h6, HB.out, HA.out, HD.out, if_pos h2]; rfl)⟩
            · have h2 : m * (x.2 / (egcd m x.2 1 0).1) ≤ 1099511627776 := by assumption
              go_roundw
              case rel => exact ⟨k + 1, _, by omega, by go_num, rfl, hmul.1, h2, by unfold Hid; rw [HA.out, HD.out, if_neg (by omega)], below_drewN (hB.alloc hB.size _) n⟩
              case measure => simp [intOf]; omega
          · go_wp2
            go_ret
            exact ⟨hB, ret_int (by rw [checkL, if_neg h6, HB.out, HA.out, List.drop_of_length_le (by omega)]; rfl)⟩

def JoinR (w : World) (p : Int × Int × Bool) (en : Ending) (w' : World) : Prop :=
  Below w.heap.size w w' ∧ en = .returned (.tuple #[.agg #[.int .i64 p.1, .int .i64 p.2.1], .bool p.2.2])

set_option maxRecDepth 100000 in
set_option maxHeartbeats 1000000 in
theorem join_any (ar am br bm : Int) (w : World) (h1 : 1 ≤ am) (h2 : am ≤ 1099511627776) (h3 : 1 ≤ bm) (h4 : bm ≤ 100000) (h5 : 0 ≤ ar) (h6 : ar < am) (h7 : 0 ≤ br) (h8 : br < bm) :
  Calls Try.prog 61 #[.agg #[.int .i64 ar, .int .i64 am], .agg #[.int .i64 br, .int .i64 bm]] w (JoinR w (joinL ar am br bm)) := by
  have hg := egcd_facts am bm h1 h3
  have hp := part_bd am bm h1 h3
  have hg1 := hg.1
  have hf1 := hg.2.2.1
  have hf2 := hg.2.2.2.1
  clear hg
  by_cases hz : Int.tmod (br - ar) (egcd am bm 1 0).1 = 0
  · have hz' : (Int.tmod (br - ar) (egcd am bm 1 0).1 != 0) = false := by simp [hz]
    have hg0 : ((egcd am bm 1 0).1 == 0) = false := by simp; omega
    have hp0 : ((bm / (egcd am bm 1 0).1) == 0) = false := by simp; omega
    have ht := tdiv_bd (br - ar) (egcd am bm 1 0).1 (-1099511627776) 100000 hg1 (by omega) (by omega) (by omega) (by omega)
    have HJ := hid (show joinL ar am br bm = _ by rw [joinL, if_neg (by simp [hz])])
    have hm1 := emod_bd (Int.tdiv (br - ar) (egcd am bm 1 0).1) _ hp.1
    have hm2 := emod_bd (egcd am bm 1 0).2 _ hp.1
    have hm3 := mul_bd0 _ _ 100000 100000 hm1.1 (by omega) hm2.1 (by omega)
    have hm4 := emod_bd ((Int.tdiv (br - ar) (egcd am bm 1 0).1 % (bm / (egcd am bm 1 0).1)) * ((egcd am bm 1 0).2 % (bm / (egcd am bm 1 0).1))) _ hp.1
    have hm5 := mul_bd0 _ am 100000 1099511627776 hm4.1 (by omega) (by omega) h2
    have hm6 := mul_bd am _ 1099511627776 100000 h1 h2 hp.1 (by omega)
    clear hz
    go_enter Try.func61, Try.ntmps61
    go_wp2_with fail
    refine (gcd_any _ _ _ h1 h3 (by omega) (by omega)).mono ?_
    rintro e w' ⟨n, rfl, rfl⟩
    go_wp2_with fail
    refine (modulo_any _ _ _ hp.1 (by omega) (by omega) (by omega)).mono ?_
    rintro e w' ⟨rfl, rfl⟩
    go_wp2_with fail
    refine (modulo_any _ _ _ hp.1 (by omega) (by omega) (by omega)).mono ?_
    rintro e w' ⟨rfl, rfl⟩
    go_wp2
    refine bodyPost_ret (v := .tuple #[.agg #[.int .i64 (joinL ar am br bm).1, .int .i64 (joinL ar am br bm).2.1], .bool (joinL ar am br bm).2.2]) (by simp [results, Try.results61, go_sem, HJ.out]) rfl ⟨?_, rfl⟩
    repeat (first | exact Below.refl _ _ | refine below_drewN ?_ _ | refine Below.setCell ?_ (by simp <;> omega) _ | refine Below.alloc ?_ (by simp <;> omega) _)
  · have hz' : (Int.tmod (br - ar) (egcd am bm 1 0).1 != 0) = true := by simp [hz]
    have hg0 : ((egcd am bm 1 0).1 == 0) = false := by simp; omega
    have HJ := hid (show joinL ar am br bm = _ by rw [joinL, if_pos hz])
    clear hz
    go_enter Try.func61, Try.ntmps61
    go_wp2_with fail
    refine (gcd_any _ _ _ h1 h3 (by omega) (by omega)).mono ?_
    rintro e w' ⟨n, rfl, rfl⟩
    go_wp2
    refine bodyPost_ret (v := .tuple #[.agg #[.int .i64 (joinL ar am br bm).1, .int .i64 (joinL ar am br bm).2.1], .bool (joinL ar am br bm).2.2]) (by simp [results, Try.results61, go_sem, HJ.out]) rfl ⟨?_, rfl⟩
    repeat (first | exact Below.refl _ _ | refine below_drewN ?_ _ | refine Below.setCell ?_ (by simp <;> omega) _ | refine Below.alloc ?_ (by simp <;> omega) _)

def SolveR (w : World) (p : Int × Int × Bool × Int) (en : Ending) (w' : World) : Prop :=
  Below w.heap.size w w' ∧ en = .returned (.tuple #[.int .i64 p.1, .int .i64 p.2.1, .bool p.2.2.1, .int .i64 p.2.2.2])
theorem ret_solve {a b : Int × Int × Bool × Int} (h : a = b) : Ending.returned (.tuple #[.int .i64 a.1, .int .i64 a.2.1, .bool a.2.2.1, .int .i64 a.2.2.2]) = .returned (.tuple #[.int .i64 b.1, .int .i64 b.2.1, .bool b.2.2.1, .int .i64 b.2.2.2]) := by rw [h]

set_option maxRecDepth 100000 in
set_option maxHeartbeats 2000000 in
theorem solve_any (a : Option Addr) (ls : List (Int × Int)) (cap : Nat) (w : World) (hl : Lines w a ls) :
  Calls Try.prog 36 #[.slice a ls.length cap] w (SolveR w (solveL ls)) := by
  have hlen := hl.len
  by_cases hz : checkL ls = 0
  · have hz' : (checkL ls != 0) = false := by simp [hz]
    obtain ⟨z1, z2, z3⟩ := checkL_zero ls hz
    have HS := hid (show solveL ls = _ by rw [solveL, if_neg (by simp [hz])])
    have HB := hid z2
    have HZ := hid z3
    clear hz z2 z3
    go_enter Try.func36, Try.ntmps36
    go_wp2_with fail
    refine (checkLines_any _ _ _ _ hl).mono ?_
    rintro e w1 ⟨hb1, rfl⟩
    go_wp2
    have hB0 : Below w.heap.size w (w1.alloc (.cells #[.int .i64 0, .int .i64 1] 57)) := hb1.alloc hb1.size _
    have hsz := hb1.size
    go_loopw [19] (fun i wr => ∃ (k : Nat) (r m : Int), k ≤ ls.length ∧ i = .int .i64 k ∧ 0 ≤ r ∧ r < m ∧ m ≤ 1099511627776 ∧ Hid (lcmTo m (ls.drop k) = 0) ∧ Hid (solveFrom 0 1 ls = solveFrom r m (ls.drop k)) ∧ Below w.heap.size w wr ∧
      wr.cell? ⟨w1.heap.size, 0, none⟩ = some (.int .i64 r) ∧ wr.cell? ⟨w1.heap.size, 1, none⟩ = some (.int .i64 m) ∧ wr.frozen? ⟨w1.heap.size, 0, none⟩ = false ∧ wr.frozen? ⟨w1.heap.size, 1, none⟩ = false) (fun i _ => ls.length - (intOf i).toNat)
    case atStart => exact ⟨0, 0, 1, Nat.zero_le _, rfl, by omega, by omega, by omega, HZ, rfl, hB0, by simp, by simp, by simp, by simp⟩
    case round =>
      obtain ⟨k, r, m, hk, rfl, hr, hrm, hm, HL, HA, hB, c0, c1, f0, f1⟩ := hrel
      have hlt1 := cell_lt c0
      by_cases hlt : k < ls.length
      · rcases hl.at_ with e | ⟨b, off, rfl, hc⟩
        · rw [e] at hlt; simp at hlt
        have h1 := (hc k hlt).1
        have h2 := (hc k hlt).2
        have hbl := cell_lt h1
        obtain ⟨hc1, hc2⟩ := bcell hB
        have hmem := hl.bd (ls[k]?.getD (0, 0)) (by rw [List.getElem?_eq_getElem hlt]; simp)
        clear hc hl
        have hl2 := lcmTo_zero m ls k hlt HL.out
        have HL2 := hid hl2.2
        have hl3 := hl2.1
        have HD := hid (solveFrom_drop r m ls k hlt)
        have hbd := anyBad_false ls HB.out k hlt
        clear hl2 HL
        generalize ls[k]?.getD (0, 0) = x at *
        go_wp2_with fail
        refine (modulo_any _ _ _ hbd.1 (by omega) (by omega) (by omega)).mono ?_
        rintro e w' ⟨rfl, rfl⟩
        have hx2 := emod_bd x.1 x.2 hbd.1
        by_cases hj : (joinL r m (x.1 % x.2) x.2).2.2 = true
        · have hj' := hj
          have HJ := hid (joinL_bd r m (x.1 % x.2) x.2 (by omega) hbd.1 hr hrm hj)
          have hD : solveFrom r m (ls.drop k) = solveFrom (joinL r m (x.1 % x.2) x.2).1 (joinL r m (x.1 % x.2) x.2).2.1 (ls.drop (k + 1)) := by rw [HD.out, if_pos hj]
          have HD2 := hid hD
          clear hD hj HD
          go_wp2_with fail
          refine (join_any _ _ _ _ _ (by omega) hm hbd.1 hbd.2 hr hrm hx2.1 hx2.2).mono ?_
          rintro e w2 ⟨hb2, rfl⟩
          have hb3 := hb2
          obtain ⟨d1, d2⟩ := bcell hb2
          have hsz2 := hb2.size
          simp only [World.size_alloc] at d1 d2 hsz2
          clear hc1 hc2
          have e0 : w2.cell? ⟨w1.heap.size, 0, none⟩ = some (.int .i64 r) := by rw [d1 _ _ (by omega)]; go_simp
          have e1 : w2.cell? ⟨w1.heap.size, 1, none⟩ = some (.int .i64 m) := by rw [d1 _ _ (by omega)]; go_simp
          have e2 : w2.frozen? ⟨w1.heap.size, 0, none⟩ = false := by rw [d2 _ _ (by omega)]; go_simp
          have e3 : w2.frozen? ⟨w1.heap.size, 1, none⟩ = false := by rw [d2 _ _ (by omega)]; go_simp
          clear d1 d2 c0 c1 f0 f1
          have hlt2 := cell_lt e0
          go_wp2
          have hBw : Below w.heap.size w w2 := (hB.alloc hB.size _).trans (hb3.mono (by have := hB.size; simp; omega))
          have q0 : w1.heap.size ≠ w2.heap.size := by omega
          go_roundw
          case rel =>
            refine ⟨k + 1, _, _, by omega, by go_num, HJ.out.1, HJ.out.2.1, by rw [HJ.out.2.2]; exact hl3, by rw [HJ.out.2.2]; exact HL2, by unfold Hid; rw [HA.out, HD2.out], ?_, ?_, ?_, ?_, ?_⟩
            · refine Below.alloc (Below.setCell (Below.setCell hBw (by simp; omega) _) (by simp; omega) _) ?_ _
              have := hBw.size; simp; omega
            all_goals go_simp
          case measure => simp [intOf]; omega
        · have hj' : (joinL r m (x.1 % x.2) x.2).2.2 = false := by simpa using hj
          have hD : solveFrom r m (ls.drop k) = (0, 0, false) := by rw [HD.out, if_neg hj]
          have HD2 := hid hD
          clear hD hj HD
          go_wp2_with fail
          refine (join_any _ _ _ _ _ (by omega) hm hbd.1 hbd.2 hr hrm hx2.1 hx2.2).mono ?_
          rintro e w2 ⟨hb2, rfl⟩
          have hb3 := hb2
          have hsz2 := hb2.size
          simp only [World.size_alloc] at hsz2
          clear hc1 hc2
          have hlt2 : w1.heap.size < w2.heap.size := by omega
          go_wp2
          have hBw : Below w.heap.size w w2 := (hB.alloc hB.size _).trans (hb3.mono (by have := hB.size; simp; omega))
          refine bodyPost_ret (v := .tuple #[.int .i64 0, .int .i64 0, .bool false, .int .i64 0]) (by simp [results, Try.results36, go_sem]) rfl ⟨hBw.alloc hBw.size _, ?_⟩
          exact ret_solve (a := (0, 0, false, 0)) (by rw [HS.out, HA.out, HD2.out])
      · go_wp2
        go_quiet (fail)
        go_wp2
        refine bodyPost_ret (v := .tuple #[.int .i64 r, .int .i64 m, .bool true, .int .i64 0]) (by simp [results, Try.results36, go_sem]) rfl ⟨below_drewN hB _, ?_⟩
        exact ret_solve (a := (r, m, true, 0)) (by rw [HS.out, HA.out, List.drop_of_length_le (by omega)]; rfl)
  · have hz' : (checkL ls != 0) = true := by simp [hz]
    have HS := hid (show solveL ls = _ by rw [solveL, if_pos hz])
    clear hz
    go_enter Try.func36, Try.ntmps36
    go_wp2_with fail
    refine (checkLines_any _ _ _ _ hl).mono ?_
    rintro e w1 ⟨hb1, rfl⟩
    go_wp2
    refine bodyPost_ret (v := .tuple #[.int .i64 0, .int .i64 0, .bool false, .int .i64 (checkL ls)]) (by simp [results, Try.results36, go_sem]) rfl ⟨hb1, ?_⟩
    rw [HS.out]

end Go.Proofs.Ytilolaednbcaoaa
