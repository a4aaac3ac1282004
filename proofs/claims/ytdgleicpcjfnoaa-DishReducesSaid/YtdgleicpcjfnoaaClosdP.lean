/- The program's Closed: the number of sets from which nothing else follows. -/
import Derived.Test.YtdgleicpcjfnoaaFollows
import Derived.Deep.Cut
set_option linter.unusedVariables false
namespace Go.Proofs.Ytdgleicpcjfnoaa
open Go.RowKit

def closN (rls : List RuleL) : Nat → Nat
  | 0 => 0
  | m + 1 => closN rls m + if closL rls m = m then 1 else 0
theorem closN_le (rls : List RuleL) : ∀ m, closN rls m ≤ m
  | 0 => Nat.le_refl _
  | m + 1 => by have := closN_le rls m; rw [closN]; split <;> omega
def closdL (P : Int) (its : List ItemL) (rls : List RuleL) : Int × Int := if validB P its rls ≠ 0 then (0, validB P its rls) else (((closN rls (2 ^ P.toNat) : Nat) : Int), 0)
def ClosdR (w : World) (x : Int × Int) (en : Ending) (w' : World) : Prop := Below w.heap.size w w' ∧ en = .returned (.tuple #[.int .i64 x.1, .int .i64 x.2])
theorem shl_u (p : Nat) (hp : p ≤ 10) : IntKind.u64.wrap ((2 : Int) ^ p) = ((2 ^ p : Nat) : Int) := by
  rcases p with _ | _ | _ | _ | _ | _ | _ | _ | _ | _ | _ | p <;> first | rfl | omega
set_option maxRecDepth 100000 in
set_option maxHeartbeats 4000000 in
theorem dClosed_any (P : Int) (ia : Option Addr) (its : List ItemL) (ic : Nat) (ra : Option Addr) (rls : List RuleL) (rc : Nat) (w : World) (h : BookAt w P ia its ra rls) :
  Calls Try.prog 38 #[.agg #[.int .i64 P, .slice ia its.length ic, .slice ra rls.length rc]] w (ClosdR w (closdL P its rls)) := by
  obtain ⟨w1, hw1⟩ : ∃ w1, w.alloc (.cells #[.int .i64 P, .slice ia its.length ic, .slice ra rls.length rc] 25) = w1 := ⟨_, rfl⟩
  have hB1 : Below w.heap.size w w1 := by rw [← hw1]; exact (Below.refl _ _).alloc (Nat.le_refl _) _
  have HN := hid (validateB_any P ia its ic ra rls rc _ (h.below hB1))
  have a0 : w1.cell? ⟨w.heap.size, 0, none⟩ = some (.int .i64 P) := by rw [← hw1]; clear hw1; go_simp
  have a1 : w1.cell? ⟨w.heap.size, 1, none⟩ = some (.slice ia its.length ic) := by rw [← hw1]; clear hw1; go_simp
  have a2 : w1.cell? ⟨w.heap.size, 2, none⟩ = some (.slice ra rls.length rc) := by rw [← hw1]; clear hw1; go_simp
  have HK := hid (And.intro a0 a2)
  have hs1 : w.heap.size < w1.heap.size := by rw [← hw1]; simp
  have HB := hid h
  clear h
  go_enter Try.func38, Try.ntmps38
  go_wp2_with fail
  clear hw1
  refine HN.out.mono ?_
  rintro e w3 ⟨q3, rfl⟩
  clear HN a0 a1 a2
  obtain ⟨a0, a2⟩ := HK.out
  have a0 := (q3.cell (cell_lt a0)).trans a0
  have a2 := (q3.cell (cell_lt a2)).trans a2
  have hB3 : Below w.heap.size w w3 := hB1.trans (q3.mono (by omega))
  clear HK
  have HX := hid (show closdL P its rls = if validB P its rls ≠ 0 then (0, validB P its rls) else (((closN rls (2 ^ P.toNat) : Nat) : Int), 0) from rfl)
  generalize closdL P its rls = ans at *
  by_cases hz : validB P its rls = 0
  · obtain ⟨v0, v1, v2, v3, v4, v5⟩ := validB_ok hz
    obtain ⟨p, rfl⟩ := Int.eq_ofNat_of_zero_le v0
    have hp10 : p ≤ 10 := by omega
    have HA := hid (show ans = (((closN rls (2 ^ p) : Nat) : Int), 0) by rw [HX.out, if_neg (by simp [hz])]; rfl)
    have HC := hid (fun W (hb : Below w.heap.size w W) M (hM : M < 2 ^ 10) => (closure_any (p : Int) ra rls rc M W (HB.out.below hb).rules (by omega) v3 v5 hM))
    have HS := hid (shl_u p hp10)
    have hz3 := hB3.size
    rw [hz]
    clear hz v0 v1 v2 v3 v4 v5 HX
    go_upto_region 6 with (fail)
    rw [HS.out]
    have h210 : 2 ^ p ≤ 2 ^ 10 := Nat.pow_le_pow_right (by omega) hp10
    clear HS
    generalize 2 ^ p = tp at *
    go_loopw [5, 15] (fun nn i wr => ∃ m : Nat, m ≤ tp ∧ nn = .int .i64 ((closN rls m : Nat) : Int) ∧ i = .int .u64 (m : Int) ∧ Below w3.heap.size w3 wr) (fun _ i _ => tp - (intOf i).toNat)
    case atStart => exact ⟨0, Nat.zero_le _, rfl, rfl, Below.refl _ _⟩
    case round =>
      obtain ⟨m, hm, rfl, rfl, hb⟩ := hrel
      have b2 := (hb.cell (cell_lt a2)).trans a2
      have hcl := closN_le rls m
      by_cases hlt : m < tp
      · have hlt2 : (m : Int) < ((tp : Nat) : Int) := by exact_mod_cast hlt
        have hM : m < 2 ^ 10 := by omega
        have hNx := hid (show closN rls (m + 1) = closN rls m + if closL rls m = m then 1 else 0 from rfl)
        clear hm hlt a0 a2
        go_wp2_with fail
        refine (HC.out _ (hB3.trans (hb.mono hz3)) m hM).mono ?_
        rintro e w6 ⟨q6, _, rfl⟩
        have hb6 := hb.trans (q6.mono hb.size)
        clear b2 q6 hb
        generalize closL rls m = cm at *
        generalize hcn : closN rls m = cn at *
        by_cases heq : cm = m
        · subst heq
          have HE := hid hNx.out
          go_wp2
          go_roundw
          case rel => exact ⟨cm + 1, by omega, by rw [hNx.out, if_pos trivial]; go_num, by go_num, hb6⟩
          case measure => simp [intOf]; omega
        · have hne : (((cm : Nat) : Int) == ((m : Nat) : Int)) = false := by simpa using (by omega : ¬ ((cm : Int) = (m : Int)))
          go_wp2
          go_roundw
          case rel => exact ⟨m + 1, by omega, by rw [hNx.out, if_neg heq]; go_num, by go_num, hb6⟩
          case measure => simp [intOf]; omega
      · obtain rfl : m = tp := by omega
        have hge : ¬ ((m : Int) < (m : Int)) := by omega
        have HBf := hid (hB3.trans (hb.mono hz3))
        clear hlt hm hb b2
        generalize closN rls m = cn at *
        go_wp2
        refine bodyPost_ret (v := .tuple #[.int .i64 (cn : Int), .int .i64 0]) (by simp [results, Try.results38, go_sem]) rfl ⟨HBf.out, by rw [HA.out]⟩
  · have HA := hid (show ans = (0, validB P its rls) by rw [HX.out, if_pos hz])
    have HBf := hid hB3
    clear HX HB
    generalize validB P its rls = e at *
    go_wp2
    refine bodyPost_ret (v := .tuple #[.int .i64 0, .int .i64 e]) (by simp [results, Try.results38, go_sem]) rfl ⟨HBf.out, by rw [HA.out]⟩
end Go.Proofs.Ytdgleicpcjfnoaa
