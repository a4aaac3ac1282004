/- Comparing claims: cmp.Compare, cmp.Or, size and rank of package share. -/
import Derived.Test.YtnjaacmcdkiilaaShA
import Derived.Deep.RegionHeld3
import Derived.Deep.QuietTactic
import Derived.BigQuiet
set_option linter.unusedVariables false
namespace Go.Proofs.Ytnjaacmcdkiilaa
open Go.RowKit

set_option maxHeartbeats 400000 in
theorem isNaN_any (x : Int) (w : World) : Calls Try.prog 94 #[.int .i64 x] w (SaysR w false) := by
  have h : (x != x) = false := by simp
  go_enter Try.func94, Try.ntmps94
  go_wp2
  go_ret
  exact ⟨rfl, ret_bool (by simp)⟩
set_option maxHeartbeats 1000000 in
theorem compare_any (x y : Int) (w : World) : Calls Try.prog 88 #[.int .i64 x, .int .i64 y] w fun en w' => w = w' ∧ en = .returned (.int .i64 (cmpI x y)) := by
  rcases cmpI_cases x y with ⟨h, he⟩ | ⟨h, he⟩ | ⟨h, he⟩
  · have HE := hid he
    clear he
    go_enter Try.func88, Try.ntmps88
    go_wp2_with fail
    refine (isNaN_any x _).mono ?_
    rintro e w' ⟨rfl, rfl⟩
    go_wp2_with fail
    refine (isNaN_any y _).mono ?_
    rintro e w' ⟨rfl, rfl⟩
    go_wp2
    go_ret
    exact ⟨rfl, ret_int HE.out.symm⟩
  · have HE := hid he
    have h2 : ¬ x < y := by omega
    clear he
    go_enter Try.func88, Try.ntmps88
    go_wp2_with fail
    refine (isNaN_any x _).mono ?_
    rintro e w' ⟨rfl, rfl⟩
    go_wp2_with fail
    refine (isNaN_any y _).mono ?_
    rintro e w' ⟨rfl, rfl⟩
    go_wp2
    go_ret
    exact ⟨rfl, ret_int HE.out.symm⟩
  · subst h
    have HE := hid he
    clear he
    go_enter Try.func88, Try.ntmps88
    go_wp2_with fail
    refine (isNaN_any x _).mono ?_
    rintro e w' ⟨rfl, rfl⟩
    go_wp2_with fail
    refine (isNaN_any x _).mono ?_
    rintro e w' ⟨rfl, rfl⟩
    go_wp2
    go_ret
    exact ⟨rfl, ret_int HE.out.symm⟩

def orL : List Int → Int
  | [] => 0
  | x :: t => if x = 0 then orL t else x
theorem orL_drop (l : List Int) (k : Nat) (h : k < l.length) : orL (l.drop k) = if l[k]?.getD 0 = 0 then orL (l.drop (k + 1)) else l[k]?.getD 0 := by
  rw [List.drop_eq_getElem_cons h, List.getElem?_eq_getElem h]; rfl
set_option maxHeartbeats 1000000 in
theorem or_any (a : Option Addr) (l : List Int) (cap : Nat) (w : World) (h : Ints w a l) : Calls Try.prog 87 #[.slice a l.length cap] w fun en w' => w = w' ∧ en = .returned (.int .i64 (orL l)) := by
  have hlen := h.len
  have HH := hid h
  clear h
  go_enter Try.func87, Try.ntmps87
  go_wp2
  go_loop [8] (fun i => ∃ (k : Nat), k ≤ l.length ∧ i = .int .i64 k ∧ Hid (orL l = orL (l.drop k))) (fun i => l.length - (intOf i).toNat)
  case atStart => exact ⟨0, Nat.zero_le _, rfl, rfl⟩
  case round =>
    obtain ⟨k, hk, rfl, HS⟩ := hrel
    by_cases hlt : k < l.length
    · rcases HH.out.at_ with e | ⟨b, off, rfl, hc⟩
      · rw [e] at hlt; simp at hlt
      have g := hc k hlt
      have HD := hid (orL_drop l k hlt)
      clear hc
      generalize l[k]?.getD 0 = x at *
      by_cases hx : x = 0
      · subst hx
        go_wp2
        go_round
        case rel => exact ⟨k + 1, by omega, by go_num, by unfold Hid; rw [HS.out, HD.out]; rfl⟩
        case measure => simp [intOf]; omega
      · have hx' : (x != 0) = true := by simp [hx]
        have HX := hid hx
        clear hx
        go_wp2
        go_ret
        exact ⟨rfl, ret_int (by rw [HS.out, HD.out, if_neg HX.out])⟩
    · go_wp2
      go_ret
      exact ⟨rfl, ret_int (by rw [HS.out, List.drop_of_length_le (by omega)]; rfl)⟩

def claimV (c : ClaimL) : Value := .agg #[.int .i64 c.1, .int .i64 c.2.1, .int .i64 c.2.2]
def BoxC (w : World) (g : Nat) (c : ClaimL) : Prop := w.cell? ⟨g, 0, none⟩ = some (.int .i64 c.1) ∧ w.cell? ⟨g, 1, none⟩ = some (.int .i64 c.2.1) ∧ w.cell? ⟨g, 2, none⟩ = some (.int .i64 c.2.2)

set_option maxRecDepth 100000 in
set_option maxHeartbeats 1000000 in
theorem size_any (s v a t u b : Int) (w : World) (g1 : GoodC (s, v, a)) (g2 : GoodC (t, u, b)) :
  Calls Try.prog 65 #[.agg #[.int .i64 s, .int .i64 v, .int .i64 a], .agg #[.int .i64 t, .int .i64 u, .int .i64 b]] w (IntR w (szC v a u b)) := by
  obtain ⟨_, ⟨v1, v2⟩, a1, a2⟩ := g1
  obtain ⟨_, ⟨u1, u2⟩, b1, b2⟩ := g2
  dsimp only at v1 v2 a1 a2 u1 u2 b1 b2
  obtain ⟨p1, p2⟩ := prod_bd v1 v2 b1 b2
  obtain ⟨p3, p4⟩ := prod_bd u1 u2 a1 a2
  have hB0 := hid (((Below.refl w.heap.size w).alloc (Nat.le_refl _) (.cells #[.int .i64 s, .int .i64 v, .int .i64 a] 76)).alloc (by simp) (.cells #[.int .i64 t, .int .i64 u, .int .i64 b] 76))
  have C1 := hid (fun w => compare_any v u w)
  have C2 := hid (fun w => compare_any (v * b) (u * a) w)
  by_cases h1 : a = 0
  · by_cases h2 : b = 0
    · subst h1 h2
      have HS := hid (show szC v 0 u 0 = cmpI v u by simp [szC])
      clear p1 p2 p3 p4
      go_enter Try.func65, Try.ntmps65
      go_wp2_with fail
      refine (C1.out _).mono ?_
      rintro e w' ⟨rfl, rfl⟩
      go_wp2
      go_ret
      exact ⟨hB0.out, ret_int HS.out.symm⟩
    · have HS := hid (show szC v a u b = cmpI (v * b) (u * a) by simp [szC, h2])
      subst h1
      have h2' : (b == 0) = false := by simp [h2]
      clear h2
      go_enter Try.func65, Try.ntmps65
      go_wp2_with fail
      rw [Int.mul_zero] at C2
      first | refine (C2.out _).mono ?_ | (rw [Int.mul_zero]; refine (C2.out _).mono ?_)
      rintro e w' ⟨rfl, rfl⟩
      go_wp2
      go_ret
      exact ⟨hB0.out, ret_int (by rw [HS.out, Int.mul_zero])⟩
  · have HS := hid (show szC v a u b = cmpI (v * b) (u * a) by simp [szC, h1])
    have h1' : (a == 0) = false := by simp [h1]
    clear h1
    go_enter Try.func65, Try.ntmps65
    go_wp2_with fail
    refine (C2.out _).mono ?_
    rintro e w' ⟨rfl, rfl⟩
    go_wp2
    go_ret
    exact ⟨hB0.out, ret_int HS.out.symm⟩
end Go.Proofs.Ytnjaacmcdkiilaa
