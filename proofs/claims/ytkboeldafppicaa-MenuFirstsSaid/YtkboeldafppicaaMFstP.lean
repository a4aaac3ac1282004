/- Clone, Concat and Compare of package slices at whole numbers, as the program calls them. -/
import Derived.Test.YtkboeldafppicaaMFstL
import Derived.Test.YtkboeldafppicaaSlcM
import Derived.Test.YtkboeldafppicaaRowsI
import Derived.Test.YtkboeldafppicaaAppend
import Derived.Test.YtkboeldafppicaaLstI
import Derived.Shelf.Spec.SlicesGrow
import Derived.Ground.Names8Prog
set_option linter.unusedVariables false
set_option linter.unusedSimpArgs false
namespace Go.Proofs.Ytkboeldafppicaa
open Go.RowKit

theorem ints_src {w : World} {A : Option Addr} {xs : List Int} (h : Ints w A xs) : xs.length = 0 ∨ ∃ ad, A = some ad ∧ ∀ (j : Nat) (u : Value), (xs.map (Value.int .i64))[j]? = some u → w.cell? (ad.add j) = some u := by
  rcases h.at_ with rfl | ⟨b, off, rfl, hc⟩
  · exact .inl rfl
  · refine .inr ⟨_, rfl, fun j u hu => ?_⟩
    have hj : j < xs.length := by
      rcases Nat.lt_or_ge j xs.length with h | h
      · exact h
      · rw [List.getElem?_eq_none (by simpa using h)] at hu; cases hu
    have e : (⟨b, off, none⟩ : Addr).add j = ⟨b, off + j, none⟩ := by
      unfold Addr.add; split
      · simp_all
      · rfl
    rw [e, hc j hj, ← hu, List.getElem?_map, List.getElem?_eq_getElem hj]
    simp
theorem ints_one (xs : List Int) : ∀ u ∈ xs.map (Value.int .i64), u.oneCell' = true := by
  intro u hu
  obtain ⟨x, _, rfl⟩ := List.mem_map.1 hu
  rfl
set_option maxRecDepth 100000 in
set_option maxHeartbeats 1000000 in
theorem mClone_any (A : Option Addr) (l : List Int) (c : Nat) (w : World) (h : Ints w A l) (hl : l.length ≤ 1000) : Calls Try.prog 116 #[.slice A l.length c] w fun e w' => Below w.heap.size w w' ∧ ∃ v, e = .returned v ∧ Own w' w.heap.size v l := by
  obtain ⟨i0, hinf, hz0, hz1, hz2⟩ := info_parts int_info
  cases A with
  | none =>
    obtain rfl : l = [] := by
      rcases h.at_ with e | ⟨b, o, e, _⟩
      · exact e
      · cases e
    clear h
    have he : ∀ w : World, (Go.binOp .eql 26 (.slice none 0 c) (.slice none 0 0)).run Try.prog w = .ok (.bool true) w := fun w => by kernel_rfl
    go_enter Try.func116, Try.ntmps116
    go_wp2
    go_ret
    exact ⟨Below.refl _ _, _, rfl, Own.nil _ _⟩
  | some a =>
    have hA : Below w.heap.size w (w.alloc (.cells #[] 3)) := (Below.refl _ _).alloc (Nat.le_refl _) _
    have hE : (w.alloc (.cells #[] 3)).ownsRow w.heap.size 3 1 (.slice (some ⟨w.heap.size, 0, none⟩) 0 0) 0 [] := by simpa using (World.ownsRow_lit (base := w.heap.size) (e := 3) (size := 1) w #[] 0 (Nat.le_refl _) (by decide) (by simp))
    have hSr := ints_src (h.below hA)
    have HA := hid hA
    have he : ∀ w : World, (Go.binOp .eql 26 (.slice (some a) l.length c) (.slice none 0 0)).run Try.prog w = .ok (.bool false) w := fun w => by kernel_rfl
    clear h hA
    go_enter Try.func116, Try.ntmps116
    go_wp2_with (at_builtin; refine wpList_append_src rfl _ _ 26 rfl w.heap.size 3 i0 (.int .i64 0) 1 8 Try.underlying26 hinf hz0 hz1 hz2 rfl (by decide) (.slice (some ⟨w.heap.size, 0, none⟩) 0 0) 0 [] rfl hE (some a) l.length c (l.map (Value.int .i64)) rfl (by simp) hSr (ints_one l) (by unfold maxLen; omega) (by omega) (by simp) ?_)
    intro v9 w9 hown9 hgr9
    have HB9 := hid (HA.out.grown hgr9 (by simp) (fun q hq => by simp [Value.ownBlock] at hq; omega))
    have HO9 := hid (show Own w9 w.heap.size v9 l by unfold Own; simpa using hown9)
    clear hown9 hgr9 hE hSr
    go_wp2
    go_ret
    exact ⟨HB9.out, _, rfl, HO9.out⟩
shelf_lay_g Lays8.n4 Nm8 4 at Try 138 as Try.growInts
theorem grow_nil (n : Nat) (hn : 0 < n) (hn2 : n ≤ 1000) (w : World) : Calls Try.prog 138 #[.slice none 0 0, .int .i64 (n : Int)] w fun e w' => Below w.heap.size w w' ∧ ∃ c, e = .returned (.slice (some ⟨w.heap.size, 0, none⟩) 0 c) ∧ Own w' w.heap.size (.slice (some ⟨w.heap.size, 0, none⟩) 0 c) [] := by
  obtain ⟨i0, hinf, hz0, hz1, hz2⟩ := info_parts int_info
  have := Any8.slices_Grow_grow Try.growInts i0 (.int .i64 0) hinf hz0 (by rw [hz1]; decide) none 0 0 n [] w (Nat.le_refl _) (by omega) (by rw [hz2]; omega) (by omega) (by rw [hz1]; rfl) (fun _ => rfl) (fun a h => by cases h)
  refine Calls.mono this ?_
  rintro e w' ⟨rfl, rfl⟩
  have hge := grownCap_ge w (0 + n) 0 3
  have hz : (Value.int .i64 0).cells.size = 1 := rfl
  have hle := grownCap_le_maxLen w (0 + n) 0 3 (by unfold maxLen; omega)
  have hB : Below w.heap.size w w.drew := (Below.refl _ _).drew
  have hown := World.ownsRow_made (base := w.heap.size) (e := 3) (size := 1) w.drew (([] : List Value).toArray ++ Builtin.zeroCells (Value.int .i64 0).cells (0 + n - 0) ++ Builtin.zeroCells (Value.int .i64 0).cells (grownCap w (0 + n) 0 3 - (0 + n))) (grownCap w (0 + n) 0 3) (Nat.le_refl _) hle (by
    simp only [Array.size_append, size_zeroCells, hz]
    rw [List.size_toArray, List.length_nil]
    omega)
  exact ⟨hB.alloc hB.size _, _, rfl, hown⟩
theorem rank_cmp (x y : Int) (w : World) : Calls Try.prog 139 #[.int .i64 x, .int .i64 y] w fun e w' => w' = w ∧ e = .returned (.int .i64 (if x < y then -1 else if y < x then 1 else 0)) := by
  by_cases h1 : x < y
  · have h2 : ¬ y < x := by omega
    rw [if_pos h1]
    go_enter Try.func139, Try.ntmps139
    go_wp2
    go_ret
    exact ⟨rfl, rfl⟩
  · rw [if_neg h1]
    by_cases h2 : y < x
    · rw [if_pos h2]
      go_enter Try.func139, Try.ntmps139
      go_wp2
      go_ret
      exact ⟨rfl, rfl⟩
    · rw [if_neg h2]
      go_enter Try.func139, Try.ntmps139
      go_wp2
      go_ret
      exact ⟨rfl, rfl⟩
set_option maxRecDepth 100000 in
set_option maxHeartbeats 1000000 in
theorem mCompare_any (A B : Option Addr) (l m : List Int) (c d : Nat) (w : World) (h : Ints w A l) (h' : Ints w B m) (hlm : m.length = l.length) :
    Calls Try.prog 118 #[.slice A l.length c, .slice B m.length d] w fun e w' => w' = w ∧ ∃ r : Int, e = .returned (.int .i64 r) ∧ (r < 0 ↔ lessL l m = true) := by
  have hl := h.len
  have HC : Hid (∀ k, k < l.length → ∃ b o b' o', A = some ⟨b, o, none⟩ ∧ B = some ⟨b', o', none⟩ ∧ w.cell? ⟨b, o + k, none⟩ = some (.int .i64 (l[k]?.getD 0)) ∧ w.cell? ⟨b', o' + k, none⟩ = some (.int .i64 (m[k]?.getD 0))) := hid (fun k hk => by
    rcases h.at_ with e | ⟨b, o, hA, hc⟩
    · rw [e] at hk; simp at hk
    · rcases h'.at_ with e | ⟨b', o', hB, hc'⟩
      · rw [e] at hlm; simp at hlm; omega
      · exact ⟨b, o, b', o', hA, hB, hc k hk, hc' k (by omega)⟩)
  have HS := hid (fun k hk => lessL_step l m k hk hlm)
  have HZ := hid (show lessL (l.drop l.length) (m.drop l.length) = false by rw [List.drop_length]; rfl)
  have hlm1 : m.length ≤ l.length := by omega
  have hlm2 : l.length ≤ m.length := by omega
  clear h h' hlm
  go_enter Try.func118, Try.ntmps118
  go_wp2
  go_loopw [11] (fun i wr => ∃ (k : Nat), k ≤ l.length ∧ i = .int .i64 k ∧ Hid (lessL l m = lessL (l.drop k) (m.drop k)) ∧ Hid (wr = w)) (fun i _ => l.length - (intOf i).toNat)
  case atStart => exact ⟨0, Nat.zero_le _, rfl, rfl, rfl⟩
  case round =>
    obtain ⟨k, hk, rfl, HT, HW⟩ := hrel
    by_cases hlt : k < l.length
    · obtain ⟨b, o, b', o', hA, hB, c0, c1⟩ := HC.out k hlt
      have hs := hid (HT.out.trans (HS.out k hlt))
      have hk0 : (0 : Int) ≤ (k : Int) := by omega
      have hk1 : (k : Int) < (l.length : Int) := by omega
      have hk2 : (k : Int) < (m.length : Int) := by omega
      rw [← HW.out] at c0 c1
      subst hA
      subst hB
      generalize l[k]?.getD 0 = x at *
      generalize m[k]?.getD 0 = y at *
      have HR := hid (rank_cmp x y)
      by_cases h1 : x < y
      · have HX := hid (hs.out.trans ((if_neg (by omega)).trans (decide_eq_true h1)))
        rw [if_pos h1] at HR
        clear h1 hs
        go_wp2_with fail
        refine (HR.out _).mono ?_
        rintro e w1 ⟨rfl, rfl⟩
        go_wp2
        go_ret
        exact ⟨HW.out, -1, rfl, by rw [HX.out]; simp⟩
      · rw [if_neg h1] at HR
        by_cases h2 : y < x
        · have HX := hid (hs.out.trans ((if_neg (by omega)).trans (decide_eq_false h1)))
          rw [if_pos h2] at HR
          clear h1 h2 hs
          go_wp2_with fail
          refine (HR.out _).mono ?_
          rintro e w1 ⟨rfl, rfl⟩
          go_wp2
          go_ret
          exact ⟨HW.out, 1, rfl, by rw [HX.out]; simp⟩
        · have HX := hid (hs.out.trans (if_pos (by omega)))
          rw [if_neg h2] at HR
          clear h1 h2 hs
          go_wp2_with fail
          refine (HR.out _).mono ?_
          rintro e w1 ⟨rfl, rfl⟩
          go_wp2
          go_roundw
          case rel => exact ⟨k + 1, by omega, by go_num, HX.out, HW.out⟩
          case measure => simp [intOf]; omega
    · obtain rfl : k = l.length := by omega
      have HX := hid (HT.out.trans HZ.out)
      have hkk : ¬ (l.length : Int) < (m.length : Int) := by omega
      go_wp2
      go_ret
      exact ⟨HW.out, 0, rfl, by rw [HX.out]; simp⟩
set_option maxRecDepth 100000 in
set_option maxHeartbeats 2000000 in
theorem mConcat_any (g : Nat) (A1 A2 : Option Addr) (l1 l2 : List Int) (c1 c2 : Nat) (w : World) (h1 : Ints w A1 l1) (h2 : Ints w A2 l2) (e0 : w.cell? ⟨g, 0, none⟩ = some (.slice A1 l1.length c1)) (e1 : w.cell? ⟨g, 1, none⟩ = some (.slice A2 l2.length c2)) (hpos : 0 < l1.length + l2.length) (hle : l1.length + l2.length ≤ 1000) :
    Calls Try.prog 117 #[.slice (some ⟨g, 0, none⟩) 2 2] w fun e w' => Below w.heap.size w w' ∧ ∃ v, e = .returned v ∧ Own w' w.heap.size v (l1 ++ l2) := by
  obtain ⟨i0, hinf, hz0, hz1, hz2⟩ := info_parts int_info
  have H1 := hid h1
  have H2 := hid h2
  have HG := hid (fun wx => grow_nil (l1.length + l2.length) hpos hle wx)
  clear h1 h2
  go_enter Try.func117, Try.ntmps117
  go_wp2
  go_loopw [3, 11] (fun q i wr => ∃ (k : Nat), k ≤ 2 ∧ i = .int .i64 k ∧ q = .int .i64 (if k = 0 then 0 else if k = 1 then (l1.length : Int) else (l1.length : Int) + (l2.length : Int)) ∧ Hid (wr = w)) (fun _ i _ => 2 - (intOf i).toNat)
  case atStart => exact ⟨0, Nat.zero_le _, rfl, rfl, rfl⟩
  case round =>
    obtain ⟨k, hk, rfl, rfl, HW⟩ := hrel
    have hk3 : k = 0 ∨ k = 1 ∨ k = 2 := by omega
    rcases hk3 with rfl | rfl | rfl
    · rw [← HW.out] at e0
      have hnn : ¬ (l1.length : Int) < 0 := by omega
      simp only [if_true]
      go_wp2
      go_roundw
      case rel => exact ⟨1, by omega, by go_num, by simp, HW.out⟩
      case measure => simp [intOf]
    · rw [← HW.out] at e1
      have hnn : ¬ (l1.length : Int) + (l2.length : Int) < 0 := by omega
      have hw1 : wrap64 ((l1.length : Int) + (l2.length : Int)) = (l1.length : Int) + (l2.length : Int) := by unfold wrap64; omega
      simp only [Nat.one_ne_zero, if_false, if_true]
      go_wp2
      go_roundw
      case rel => exact ⟨2, by omega, by go_num, by simp, HW.out⟩
      case measure => simp [intOf]
    · have HG := hid (HG.out wr)
      have ec : (((l1.length + l2.length : Nat) : Int)) = (l1.length : Int) + (l2.length : Int) := by omega
      rw [ec] at HG
      clear ec
      have H1 := hid (show Ints wr A1 l1 by rw [HW.out]; exact H1.out)
      have H2 := hid (show Ints wr A2 l2 by rw [HW.out]; exact H2.out)
      rw [← HW.out] at e0 e1
      have HBw := hid (show Below w.heap.size w wr by rw [HW.out]; exact Below.refl _ _)
      have HE := hid HW.out
      clear HW
      obtain ⟨wz, hwz⟩ : ∃ x, x = wr := ⟨_, rfl⟩
      subst hwz
      simp only [show ¬ (2 : Nat) = 0 by omega, show ¬ (2 : Nat) = 1 by omega, if_false]
      go_wp2_with fail
      refine HG.out.mono ?_
      rintro e w2 ⟨hb, cg, rfl, hO⟩
      have HO := hid hO
      have HB2 := hid hb
      clear hb hO HG
      go_wp2
      go_loopw [6, 27] (fun v i wq => ∃ (k : Nat), k ≤ 2 ∧ i = .int .i64 k ∧ Hid (Own wq wz.heap.size v (if k = 0 then [] else if k = 1 then l1 else l1 ++ l2)) ∧ Hid (Below wz.heap.size wz wq)) (fun _ i _ => 2 - (intOf i).toNat)
      case atStart => exact ⟨0, Nat.zero_le _, rfl, HO.out, HB2.out⟩
      case round =>
        clear HO HB2
        obtain ⟨k, hk, rfl, HO, HB⟩ := hrel
        have hk3 : k = 0 ∨ k = 1 ∨ k = 2 := by omega
        rcases hk3 with rfl | rfl | rfl
        · have HO1 := hid (show Own wr wz.heap.size u6 [] from HO.out)
          have q0 := (HB.out.cell (cell_lt e0)).trans e0
          have hSr := ints_src (H1.out.below HB.out)
          have hown := HO1.out
          unfold Own at hown
          have hbs := HB.out.size
          clear HO
          go_wp2_with (at_builtin; refine wpList_append_src rfl _ _ 26 rfl wz.heap.size 3 i0 (.int .i64 0) 1 8 Try.underlying26 hinf hz0 hz1 hz2 rfl (by decide) u6 0 ([]) rfl hown A1 l1.length c1 (l1.map (Value.int .i64)) rfl (by simp) hSr (ints_one l1) (by unfold maxLen; omega) (by omega) hbs ?_)
          intro v9 w9 hown9 hgr9
          have HO9 := hid (show Own w9 wz.heap.size v9 (l1) by unfold Own; simpa using hown9)
          have HB9 := hid (HB.out.grown hgr9 hbs (fun q hq => (hown.lt q hq).1))
          clear hown hown9 hgr9 hSr
          go_wp2
          go_roundw
          case rel => exact ⟨1, by omega, by go_num, hid (by simpa using HO9.out), HB9.out⟩
          case measure => simp [intOf]
        · have HO1 := hid (show Own wr wz.heap.size u6 l1 from HO.out)
          have q1 := (HB.out.cell (cell_lt e1)).trans e1
          have hSr := ints_src (H2.out.below HB.out)
          have hown := HO1.out
          unfold Own at hown
          have hbs := HB.out.size
          clear HO
          go_wp2_with (at_builtin; refine wpList_append_src rfl _ _ 26 rfl wz.heap.size 3 i0 (.int .i64 0) 1 8 Try.underlying26 hinf hz0 hz1 hz2 rfl (by decide) u6 l1.length (l1.map (Value.int .i64)) rfl hown A2 l2.length c2 (l2.map (Value.int .i64)) rfl (by simp) hSr (ints_one l2) (by unfold maxLen; omega) (by omega) hbs ?_)
          intro v9 w9 hown9 hgr9
          have HO9 := hid (show Own w9 wz.heap.size v9 (l1 ++ l2) by unfold Own; simpa using hown9)
          have HB9 := hid (HB.out.grown hgr9 hbs (fun q hq => (hown.lt q hq).1))
          clear hown hown9 hgr9 hSr
          go_wp2
          go_roundw
          case rel => exact ⟨2, by omega, by go_num, hid (by simpa using HO9.out), HB9.out⟩
          case measure => simp [intOf]
        · have HO9 := hid (show Own wr wz.heap.size u6 (l1 ++ l2) by simpa using HO.out)
          go_wp2
          go_ret
          exact ⟨by rw [← HE.out]; exact HB.out, _, rfl, by rw [← HE.out]; exact HO9.out⟩
end Go.Proofs.Ytkboeldafppicaa
