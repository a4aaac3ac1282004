/- Ways in memory; the tests of ways: package van. -/
import Derived.Test.YtbffdpcogfmomaaRes
import Derived.Test.YtbffdpcogfmomaaVaM
import Derived.Laws.Rows
import Derived.IntWalk
set_option linter.unusedVariables false
namespace Go.Proofs.Ytbffdpcogfmomaa
open Go.RowKit

def zin (n lo hi : Int) : Bool := decide (lo ≤ n ∧ n ≤ hi)
def SaysK (w : World) (b : Bool) (en : Ending) (w' : World) : Prop := w = w' ∧ en = .returned (.bool b)
def NumK (w : World) (v : Int) (en : Ending) (w' : World) : Prop := w = w' ∧ en = .returned (.int .i64 v)
set_option maxHeartbeats 400000 in
theorem vWithin_any (n lo hi : Int) (w : World) : Calls Try.prog 58 #[.int .i64 n, .int .i64 lo, .int .i64 hi] w (SaysK w (zin n lo hi)) := by
  by_cases h1 : lo ≤ n
  · by_cases h2 : n ≤ hi
    · rw [show zin n lo hi = true by simp [zin, h1, h2]]
      go_enter Try.func58, Try.ntmps58
      go_wp2
      go_ret
      exact ⟨rfl, ret_bool (by simp)⟩
    · rw [show zin n lo hi = false by simp [zin, h2]]
      have h2' : hi < n := by omega
      clear h2
      go_enter Try.func58, Try.ntmps58
      go_wp2
      go_ret
      exact ⟨rfl, ret_bool (by simp; omega)⟩
  · rw [show zin n lo hi = false by simp [zin, h1]]
    have h1' : n < lo := by omega
    clear h1
    go_enter Try.func58, Try.ntmps58
    go_wp2
    go_ret
    exact ⟨rfl, rfl⟩
set_option maxHeartbeats 400000 in
theorem vIsStop_any (x : Int) (n : Nat) (hn : n ≤ 7) (w : World) : Calls Try.prog 65 #[.int .i64 x, .int .i64 (n : Int)] w (SaysK w (zin x 1 ((n : Int) - 1))) := by
  have s1 : IntKind.i64.wrap ((n : Int) - 1) = (n : Int) - 1 := IntWalk.i64_in _ (by omega)
  have HA := hid (vWithin_any x 1 ((n : Int) - 1))
  go_enter Try.func65, Try.ntmps65
  go_wp2_with fail
  refine (HA.out _).mono ?_
  rintro e w1 ⟨rfl, rfl⟩
  go_wp2
  go_ret
  exact ⟨rfl, rfl⟩

/-- A slice of slices that reads as a table. -/
structure TabAt (w : World) (a : Option Addr) (t : Tbl) : Prop where
  len : t.length ≤ 140737488355328
  at_ : t = [] ∨ ∃ b off, a = some ⟨b, off, none⟩ ∧ ∀ i, i < t.length → ∃ A c, w.cell? ⟨b, off + i, none⟩ = some (.slice A (tR t i).length c) ∧ Ints w A (tR t i)
theorem TabAt.below {w w' : World} {a : Option Addr} {t : Tbl} (h : TabAt w a t) (hb : Below w.heap.size w w') : TabAt w' a t := by
  refine ⟨h.len, ?_⟩
  rcases h.at_ with e | ⟨b, off, ha, hc⟩
  · exact .inl e
  · refine .inr ⟨b, off, ha, fun i hi => ?_⟩
    obtain ⟨A, c, h1, h2⟩ := hc i hi
    exact ⟨A, c, by rw [hb.cell (cell_lt h1)]; exact h1, h2.below hb⟩
theorem TabAt.up {n : Nat} {w w' : World} {a : Option Addr} {t : Tbl} (h : TabAt w a t) (hb : Below n w w') (hn : w.heap.size ≤ n) : TabAt w' a t := h.below (hb.mono hn)
/-- The rows and the cells. -/
theorem TabAt.open_ {w : World} {a : Option Addr} {t : Tbl} (h : TabAt w a t) (h0 : 0 < t.length) : ∃ b off, a = some ⟨b, off, none⟩ ∧ ∀ i, i < t.length → ∃ A c, w.cell? ⟨b, off + i, none⟩ = some (.slice A (tR t i).length c) ∧ Ints w A (tR t i) := by
  rcases h.at_ with e | h
  · rw [e] at h0; simp at h0
  · exact h
theorem Ints.at' {w : World} {A : Option Addr} {xs : List Int} (h : Ints w A xs) (h0 : 0 < xs.length) : ∃ b off, A = some ⟨b, off, none⟩ ∧ ∀ j, j < xs.length → w.cell? ⟨b, off + j, none⟩ = some (.int .i64 (xs[j]?.getD 0)) := by
  rcases h.at_ with e | h
  · rw [e] at h0; simp at h0
  · exact h
/-- A row of a square table. -/
theorem TabAt.sq {w : World} {a : Option Addr} {t : Tbl} {n : Nat} (h : TabAt w a t) (hs : Sq t n) (h0 : 0 < n) : ∃ b off, a = some ⟨b, off, none⟩ ∧ ∀ i, i < n → ∃ b2 o2 c, w.cell? ⟨b, off + i, none⟩ = some (.slice (some ⟨b2, o2, none⟩) n c) ∧ Ints w (some ⟨b2, o2, none⟩) (tR t i) ∧ ∀ j, j < n → w.cell? ⟨b2, o2 + j, none⟩ = some (.int .i64 (tA t i j)) := by
  obtain ⟨b, off, rfl, hc⟩ := h.open_ (by rw [hs.len]; exact h0)
  refine ⟨b, off, rfl, fun i hi => ?_⟩
  obtain ⟨A, c, h1, h2⟩ := hc i (by rw [hs.len]; exact hi)
  have hr := hs.rows i hi
  obtain ⟨b2, o2, rfl, h3⟩ := h2.at' (by rw [hr]; exact h0)
  rw [hr] at h1
  exact ⟨b2, o2, c, h1, h2, fun j hj => h3 j (by rw [hr]; exact hj)⟩

theorem okC_eq (t : Tbl) (i j : Nat) : okC t i j = (zin (tA t i j) 0 1000 && ((tA t i j == tA t j i) && !(decide (i = j) && !(tA t i j == 0)))) := by simp [okC, zin, Bool.and_assoc]

set_option maxRecDepth 100000 in
set_option maxHeartbeats 4000000 in
theorem vValidate_any (a : Option Addr) (t : Tbl) (cap : Nat) (w : World) (h : TabAt w a t) : Calls Try.prog 22 #[.slice a t.length cap] w (IntR w (vaV t)) := by
  have hlen := h.len
  have HA := hid (vWithin_any (t.length : Int) 1 7)
  by_cases h0 : 1 ≤ t.length ∧ t.length ≤ 7
  · rw [show zin (t.length : Int) 1 7 = true from decide_eq_true (by omega)] at HA
    obtain ⟨h1, h7⟩ := h0
    obtain ⟨b, off, rfl, hc⟩ := h.open_ (by omega)
    have HR := hid (show ∀ i, i < t.length → (tR t i).length ≤ 140737488355328 from fun i hi => by obtain ⟨A, c, _, h2⟩ := hc i hi; exact h2.len)
    have HC := hid hc
    clear hc h
    go_enter Try.func22, Try.ntmps22
    go_wp2_with fail
    refine (HA.out _).mono ?_
    rintro e w1 ⟨rfl, rfl⟩
    go_wp2_with fail
    go_loop [15] (fun i => ∃ (k : Nat), k ≤ t.length ∧ i = .int .i64 k ∧ Hid (∀ i, i < k → (tR t i).length = t.length)) (fun i => t.length - (intOf i).toNat)
    case atStart => exact ⟨0, Nat.zero_le _, rfl, fun i hi => by omega⟩
    case round =>
      obtain ⟨k, hk, rfl, HT⟩ := hrel
      by_cases hlt : k < t.length
      · obtain ⟨A, c, g, _⟩ := HC.out k hlt
        have hrl := HR.out k hlt
        have HN := hid (fun (e : (tR t k).length ≠ t.length) => (vaV_rows ⟨h1, h7⟩ (rowsB_not hlt e)))
        have HT2 := hid (fun (e : (tR t k).length = t.length) => show ∀ i, i < k + 1 → (tR t i).length = t.length from fun i hi => by
          rcases Nat.lt_or_ge i k with h | h
          · exact HT.out i h
          · rw [show i = k by omega]; exact e)
        by_cases he : (tR t k).length = t.length
        · have HX := hid (HT2.out he)
          have he' : (((tR t k).length : Int) == (t.length : Int)) = true := by simp; omega
          clear HN HT2
          have HE := hid he
          clear he
          generalize (tR t k).length = r at *
          go_wp2
          go_round
          case rel => exact ⟨k + 1, by omega, by go_num, HX⟩
          case measure => simp [intOf]; omega
        · have HX := hid (HN.out he)
          have he' : (((tR t k).length : Int) == (t.length : Int)) = false := by simp; omega
          clear HN HT2
          have HE := hid he
          clear he
          generalize (tR t k).length = r at *
          go_wp2
          go_ret
          exact ⟨Below.refl _ _, ret_int (by rw [HX.out])⟩
      · have HRw := hid (show ∀ i, i < t.length → (tR t i).length = t.length from fun i hi => HT.out i (by omega))
        clear HT HR
        go_wp2_with fail
        go_loopw [27] (fun i wr => ∃ (m : Nat), m ≤ t.length ∧ i = .int .i64 m ∧ Hid (∀ i j, i < m → j < t.length → okC t i j = true) ∧ Hid (Below w.heap.size w wr)) (fun i _ => t.length - (intOf i).toNat)
        case atStart => exact ⟨0, Nat.zero_le _, rfl, fun i j hi => by omega, Below.refl _ _⟩
        case round =>
          obtain ⟨m, hm, rfl, HM, HB⟩ := hrel
          by_cases hlt2 : m < t.length
          · obtain ⟨A, c, g, hI⟩ := HC.out m hlt2
            rw [HRw.out m hlt2] at g
            obtain ⟨b2, o2, rfl, hI2⟩ := hI.at' (by rw [HRw.out m hlt2]; omega)
            have HI := hid hI2
            have gW := (HB.out.cell (cell_lt g)).trans g
            clear hI hI2 g
            go_wp2_with fail
            go_loopw [34] (fun i wr => ∃ (j : Nat), j ≤ t.length ∧ i = .int .i64 j ∧ Hid (∀ j', j' < j → okC t m j' = true) ∧ Hid (Below w.heap.size w wr)) (fun i _ => t.length - (intOf i).toNat)
            case atStart => exact ⟨0, Nat.zero_le _, rfl, fun j' hj => by omega, HB⟩
            case round =>
              obtain ⟨j, hj, rfl, HJ, HB2⟩ := hrel
              clear gW
              by_cases hlt3 : j < t.length
              · have c1 := HI.out j (by rw [HRw.out m hlt2]; exact hlt3)
                obtain ⟨A3, c3, g3, hI3⟩ := HC.out j hlt3
                rw [HRw.out j hlt3] at g3
                obtain ⟨b3, o3, rfl, hI4⟩ := hI3.at' (by rw [HRw.out j hlt3]; omega)
                have c2 := hI4 m (by rw [HRw.out j hlt3]; exact hlt2)
                have d1 := (HB2.out.cell (cell_lt c1)).trans c1
                have d2 := (HB2.out.cell (cell_lt g3)).trans g3
                have d3 := (HB2.out.cell (cell_lt c2)).trans c2
                clear c1 c2 g3 hI3 hI4
                have HO := hid (okC_eq t m j)
                have HBad := hid (fun (e : okC t m j = false) => vaV_cells ⟨h1, h7⟩ (cellsB_not hlt2 hlt3 e))
                have HG := hid (fun (e : okC t m j = true) => show ∀ j', j' < j + 1 → okC t m j' = true from fun j' hj' => by
                  rcases Nat.lt_or_ge j' j with h | h
                  · exact HJ.out j' h
                  · rw [show j' = j by omega]; exact e)
                rw [show (tR t m)[j]?.getD 0 = tA t m j from rfl] at d1
                rw [show (tR t j)[m]?.getD 0 = tA t j m from rfl] at d3
                generalize tA t m j = x at *
                generalize tA t j m = y at *
                have HZ := hid (fun w => vWithin_any x 0 1000 w)
                cases hz : zin x 0 1000 with
                | false =>
                  rw [hz] at HZ
                  have HN := hid (HBad.out (by rw [HO.out, hz]; rfl))
                  clear hz HO HBad HG
                  go_wp2_with fail
                  refine (HZ.out _).mono ?_
                  rintro e w1 ⟨rfl, rfl⟩
                  go_wp2
                  go_ret
                  exact ⟨HB2.out, ret_int (by rw [HN.out])⟩
                | true =>
                  rw [hz] at HZ
                  by_cases hy' : ¬ x = y
                  · have hy : (x == y) = false := by simp; exact hy'
                    have HN := hid (HBad.out (by rw [HO.out, hz, hy]; rfl))
                    clear hz HO HBad HG
                    go_wp2_with fail
                    refine (HZ.out _).mono ?_
                    rintro e w1 ⟨rfl, rfl⟩
                    go_wp2
                    go_ret
                    exact ⟨HB2.out, ret_int (by rw [HN.out])⟩
                  · have hy'' : x = y := Classical.not_not.1 hy'
                    have hy : (x == y) = true := by simp; exact hy''
                    rw [hz, hy] at HO
                    clear hy'
                    subst hy''
                    by_cases hmj : m = j
                    · rw [decide_eq_true hmj] at HO
                      subst hmj
                      by_cases hx0' : x = 0
                      · have hx0 : (x == 0) = true := by simp; exact hx0'
                        rw [hx0] at HO
                        have HN := hid (HG.out HO.out)
                        clear hz HO HBad HG hx0
                        subst hx0'
                        go_wp2_with fail
                        refine (HZ.out _).mono ?_
                        rintro e w1 ⟨rfl, rfl⟩
                        go_wp2
                        go_roundw
                        case rel => exact ⟨m + 1, by omega, by go_num, HN, HB2⟩
                        case measure => simp [intOf]; omega
                      · have hx0 : (x == 0) = false := by simp; exact hx0'
                        rw [hx0] at HO
                        have HN := hid (HBad.out HO.out)
                        clear hz HO HBad HG
                        go_wp2_with fail
                        refine (HZ.out _).mono ?_
                        rintro e w1 ⟨rfl, rfl⟩
                        go_wp2
                        go_ret
                        exact ⟨HB2.out, ret_int (by rw [HN.out])⟩
                    · have hmj' : ((m : Int) == (j : Int)) = false := by simp; omega
                      have hmj2 : ¬ (m : Int) = (j : Int) := by omega
                      rw [decide_eq_false hmj] at HO
                      have HN := hid (HG.out HO.out)
                      clear hz HO HBad HG hmj
                      go_wp2_with fail
                      refine (HZ.out _).mono ?_
                      rintro e w1 ⟨rfl, rfl⟩
                      go_wp2
                      go_roundw
                      case rel => exact ⟨j + 1, by omega, by go_num, HN, HB2⟩
                      case measure => simp [intOf]; omega
              · have HX := hid (show ∀ i j, i < m + 1 → j < t.length → okC t i j = true from fun i j' hi hj' => by
                  rcases Nat.lt_or_ge i m with h | h
                  · exact HM.out i j' h hj'
                  · rw [show i = m by omega]; exact HJ.out j' (by omega))
                go_wp2
                go_roundw
                case rel => exact ⟨m + 1, by omega, by go_num, HX, HB2⟩
                case measure => simp [intOf]; omega
          · have HX := hid (show vaV t = 0 from vaV_ok ⟨h1, h7⟩ ((rowsB_iff t).2 HRw.out) ((cellsB_iff t).2 fun i j hi hj => HM.out i j (by omega) hj))
            go_wp2
            go_ret
            exact ⟨HB.out, ret_int (by rw [HX.out])⟩
  · rw [show zin (t.length : Int) 1 7 = false from decide_eq_false (by omega)] at HA
    have HN := hid (vaV_large h0)
    clear h0 h
    go_enter Try.func22, Try.ntmps22
    go_wp2_with fail
    refine (HA.out _).mono ?_
    rintro e w1 ⟨rfl, rfl⟩
    go_wp2
    go_ret
    exact ⟨Below.refl _ _, ret_int (by rw [HN.out])⟩
end Go.Proofs.Ytbffdpcogfmomaa
