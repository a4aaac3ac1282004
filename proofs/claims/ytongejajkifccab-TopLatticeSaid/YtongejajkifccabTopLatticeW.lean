/- The law TopLattice: its walk. -/
import Derived.Test.YtongejajkifccabLatticeW
import Derived.Deep.RegionHeld3
set_option linter.unusedVariables false
namespace Go.Proofs.Ytongejajkifccab
open Go.RowKit

theorem getQ_mem (l : List (Int × Int)) (k : Nat) (h : k < l.length) : l[k]?.getD (0, 0) ∈ l := by
  rw [List.getElem?_eq_getElem h]; simp
theorem pairsL_len (rows : List Int) (d : Int) : (pairsR rows d).1.length ≤ 256 := by
  unfold pairsR
  split
  · simp
  · rename_i hz
    obtain ⟨_, _, hr8, _⟩ := validTab_ok (by simpa using hz)
    have hp : 2 ^ rows.length ≤ 256 := Nat.pow_le_pow_right (n := 2) (by omega) hr8
    have := pairsTo_len d.toNat rows (2 ^ rows.length)
    simp; omega
theorem known_menus2 : menusR [3, 6] 3 = ([2, 5], 0) := by decide +kernel

/-- What the calls of paired keep: the cells of two pairs. -/
def TwoS (b : Nat) (o1 o2 : Nat) (x y x' y' : Int) (w w' : World) : Prop :=
  w'.cell? ⟨b, o1, none⟩ = some (.int .i64 x) ∧ w'.cell? ⟨b, o1 + 1, none⟩ = some (.int .i64 y) ∧ w'.cell? ⟨b, o2, none⟩ = some (.int .i64 x') ∧ w'.cell? ⟨b, o2 + 1, none⟩ = some (.int .i64 y') ∧ Below w.heap.size w w'
theorem TwoS.keep {b o1 o2 : Nat} {x y x' y' : Int} {w w' w2 : World} (h : TwoS b o1 o2 x y x' y' w w') (hb : Below w'.heap.size w' w2) : TwoS b o1 o2 x y x' y' w w2 := by
  obtain ⟨a0, a1, a2, a3, p⟩ := h
  refine ⟨?_, ?_, ?_, ?_, p.trans (hb.mono p.size)⟩
  · rw [hb.cell (cell_lt a0)]; exact a0
  · rw [hb.cell (cell_lt a1)]; exact a1
  · rw [hb.cell (cell_lt a2)]; exact a2
  · rw [hb.cell (cell_lt a3)]; exact a3
theorem TwoS.below {b o1 o2 : Nat} {x y x' y' : Int} {w w' : World} (h : TwoS b o1 o2 x y x' y' w w') : Below w.heap.size w w' := h.2.2.2.2
theorem TwoS.drew {b o1 o2 : Nat} {x y x' y' : Int} {w w' : World} (h : TwoS b o1 o2 x y x' y' w w') : TwoS b o1 o2 x y x' y' w w'.drew := by
  obtain ⟨a0, a1, a2, a3, p⟩ := h
  exact ⟨a0, a1, a2, a3, p.drew⟩

set_option maxRecDepth 100000 in
set_option maxHeartbeats 8000000 in
theorem topLattice_walk (a : Option Addr) (rows : List Int) (cap : Nat) (d : Int) (w : World) (h1 : rows.length ≤ 9223372036854775807) (hT : rows.length ≤ 140737488355328 → Ints w a rows) :
  Calls Try.prog 5 #[.slice a rows.length cap, .int .i64 d] w (BoolR w true) := by
  go_enter Try.func5, Try.ntmps5
  go_wp2_with fail
  have hB1 := (Below.refl w.heap.size w).alloc (Nat.le_refl _) (.cells #[.int .i64 3, .int .i64 6] 3)
  have hK : Ints (w.alloc (.cells #[.int .i64 3, .int .i64 6] 3)) (some ⟨w.heap.size, 0, none⟩) [3, 6] := by
    refine ⟨by simp, .inr ⟨_, _, rfl, fun i hi => ?_⟩, by simp⟩
    have : i = 0 ∨ i = 1 := by simp at hi; omega
    rcases this with rfl | rfl <;> go_simp
  have H := tmenus_any (some ⟨w.heap.size, 0, none⟩) [3, 6] 2 3 _ hK
  simp only [List.length_cons, List.length_nil, Nat.zero_add, Nat.reduceAdd] at H
  rw [known_menus2] at H
  refine H.mono ?_
  clear H hK
  rintro e w2 ⟨hb2, A2, c2, rfl, hown2⟩
  have p2 := hB1.trans (hb2.mono (by simp))
  obtain ⟨A2', c2', hv, hM⟩ := hown2.ints (by simp) (by simp)
  cases hv
  clear hown2 hb2 hB1
  dsimp only [List.length_cons, List.length_nil, Nat.zero_add, Nat.reduceAdd]
  go_wp2_with fail
  have hB4 := (Below.refl w2.heap.size w2).alloc (Nat.le_refl _) (.cells #[.int .i64 2, .int .i64 5] 3)
  have hY : Ints (w2.alloc (.cells #[.int .i64 2, .int .i64 5] 3)) (some ⟨w2.heap.size, 0, none⟩) [2, 5] := by
    refine ⟨by simp, .inr ⟨_, _, rfl, fun i hi => ?_⟩, by simp⟩
    have : i = 0 ∨ i = 1 := by simp at hi; omega
    rcases this with rfl | rfl <;> go_simp
  have H := same_any A2 (some ⟨w2.heap.size, 0, none⟩) [2, 5] [2, 5] c2 2 _ (hM.below hB4) hY
  simp only [List.length_cons, List.length_nil, Nat.zero_add, Nat.reduceAdd] at H
  rw [show sameB [2, 5] [2, 5] = true by decide] at H
  refine H.mono ?_
  clear H hY hM
  rintro e w3 ⟨⟨n3, hw3⟩, rfl⟩
  have p3 := p2.trans ((show Below w2.heap.size w2 w3 by rw [hw3]; exact below_drewN hB4 _).mono p2.size)
  clear hw3 hB4 p2
  by_cases hl : 60 < rows.length
  · have hl' : (60 : Int) < (rows.length : Int) := by omega
    go_wp2
    go_ret
    exact ⟨p3, rfl⟩
  · have hL := (hT (by omega)).below p3
    have hl' : (rows.length : Int) ≤ 60 := by omega
    clear hT
    have HP := hid (fun (w' : World) (hI : Ints w' a rows) => pairs_any a rows cap d w' hI)
    have HMn := hid (fun (w' : World) (hI : Ints w' a rows) => tmenus_any a rows cap d w' hI)
    have hml := pairsL_len rows d
    go_wp2_with fail
    refine (HP.out _ hL).mono ?_
    rintro e w4 ⟨q4, A, c, rfl, o4⟩
    have p4 := p3.trans (q4.mono p3.size)
    have hL4 := hL.below q4
    have i4 := o4.at_ (by omega)
    clear o4 q4 HP hL p3
    by_cases hz : validTab rows d = 0
    · have hpr : pairsR rows d = (pairsTo d.toNat rows (2 ^ rows.length), 0) := by rw [pairsR, if_neg (by simp [hz])]
      have hmr : menusR rows d = (menusTo rows (2 ^ d.toNat), 0) := by rw [menusR, if_neg (by simp [hz])]
      rw [hpr] at hml i4 ⊢
      rw [hmr] at HMn
      clear hpr hmr
      obtain ⟨h0, h8, hr8, hrr⟩ := validTab_ok hz
      obtain ⟨n, rfl⟩ := Int.eq_ofNat_of_zero_le h0
      rw [Int.toNat_natCast] at *
      dsimp only at hml i4 ⊢
      have hnn : 2 ^ n ≤ 256 := Nat.pow_le_pow_right (n := 2) (by omega) (show n ≤ 8 by omega)
      have HPd := hid (fun (w' : World) (hI : Ints w' a rows) (hP : PairsAt w' A (pairsTo n rows (2 ^ rows.length))) (X Y : Nat) => paired_any a rows cap n A c X Y w' hI hP hz)
      have HMem := hid (mem_pairsTo n rows (2 ^ rows.length))
      have HRr := hid hrr
      clear hz hrr h0 h8
      generalize hl : pairsTo n rows (2 ^ rows.length) = l at *
      clear hl
      go_wp2
      go_loopw [8] (fun i wr => ∃ k : Nat, k ≤ l.length ∧ i = .int .i64 k ∧ Below w.heap.size w wr ∧ Ints wr a rows ∧ PairsAt wr A l) (fun i _ => l.length - (intOf i).toNat)
      case atStart => exact ⟨0, Nat.zero_le _, rfl, p4, hL4, i4⟩
      case round =>
        clear p4 hL4 i4
        obtain ⟨k, hk, rfl, p4, hL4, i4⟩ := hrel
        by_cases hlt : k < l.length
        · go_wp2
          obtain ⟨wo, rfl⟩ : ∃ wo : World, wo = wr := ⟨_, rfl⟩
          go_loopw [9] (fun i wr => ∃ j : Nat, j ≤ k ∧ i = .int .i64 j ∧ Below w.heap.size w wr ∧ Ints wr a rows ∧ PairsAt wr A l) (fun i _ => k - (intOf i).toNat)
          case atStart => exact ⟨0, Nat.zero_le _, rfl, p4, hL4, i4⟩
          case round =>
            clear p4 hL4 i4
            obtain ⟨j, hj, rfl, p4, hL4, i4⟩ := hrel
            by_cases hjk : j < k
            · rcases i4.at_ with e | ⟨b, off, rfl, hc⟩
              · rw [e] at hlt; simp at hlt
              obtain ⟨c0, c1⟩ := hc k hlt
              obtain ⟨d0, d1⟩ := hc j (by omega)
              obtain ⟨X, hX1, hX2, hX3⟩ := (HMem.out _).1 (getQ_mem l k hlt)
              obtain ⟨Y, hY1, hY2, hY3⟩ := (HMem.out _).1 (getQ_mem l j (by omega))
              have HC := hid (fun (w' : World) (hb : Below wr.heap.size wr w') => HPd.out w' (hL4.below hb) (i4.below hb) X Y hX1 hY1 hX2 hY2)
              rw [hX3] at c0 c1
              rw [hY3] at d0 d1
              dsimp only at c0 c1 d0 d1
              clear hc hX2 hX3 hY2 hY3
              generalize comN n rows X rows.length = cX at *
              generalize comN n rows Y rows.length = cY at *
              have S0 := hid (show TwoS b (off + k * 2) (off + j * 2) (X : Int) (cX : Int) (Y : Int) (cY : Int) wr wr from ⟨c0, c1, d0, d1, Below.refl _ _⟩)
              have HL4 := hid hL4
              have HI4 := hid i4
              have HP4 := hid p4
              clear hL4 i4 p4 hX1 hY1
              have z0 : (0 : Int) ≤ (k : Int) := by omega
              have z1 : (k : Int) < (l.length : Int) := by omega
              have z2 : (0 : Int) ≤ (j : Int) := by omega
              have z3 : (j : Int) < (l.length : Int) := by omega
              go_wp2_with fail
              go_region_held3 (fun w' => w'.cell? ⟨b, off + k * 2, none⟩ = some (.int .i64 (X : Int)) ∧ w'.cell? ⟨b, off + k * 2 + 1, none⟩ = some (.int .i64 (cX : Int)) ∧ w'.cell? ⟨b, off + j * 2, none⟩ = some (.int .i64 (Y : Int)) ∧ w'.cell? ⟨b, off + j * 2 + 1, none⟩ = some (.int .i64 (cY : Int)) ∧ Below wr.heap.size wr w') (first | exact S0.out.drew | exact S0.out | exact TwoS.keep (by assumption) (by assumption))
                (first | (go_at_call 20; refine (HC.out _ ?_).mono ?_; (exact TwoS.below (by assumption)); rintro en w5 ⟨hb5, rfl⟩))
              have hHeld : TwoS b (off + k * 2) (off + j * 2) (X : Int) (cX : Int) (Y : Int) (cY : Int) wr w5 := by assumption
              have q5 := hHeld.below
              clear hHeld
              go_wp2
              go_roundw
              case rel => exact ⟨j + 1, by omega, by go_num, HP4.out.trans (q5.mono HP4.out.size), HL4.out.below q5, HI4.out.below q5⟩
              case measure => simp [intOf]; omega
            · obtain rfl : j = k := by omega
              go_wp2
              go_roundw
              case rel => exact ⟨j + 1, by omega, by go_num, p4, hL4, i4⟩
              case measure => simp [intOf]; omega
        · obtain rfl : k = l.length := by omega
          go_wp2_with fail
          refine (HMn.out _ hL4).mono ?_
          rintro e w6 ⟨q6, A6, c6, rfl, o6⟩
          have p6 := p4.trans (q6.mono p4.size)
          have hL6 := hL4.below q6
          have hlen6 := menusTo_len rows (2 ^ n)
          have hbd6 := menusTo_bd rows (2 ^ n)
          obtain ⟨_, _, hv, i6⟩ := o6.ints (by dsimp only; omega) (fun x hx => by have := hbd6 x hx; omega)
          cases hv
          dsimp only at i6 ⊢
          have HG := hid (mem_menusTo rows (2 ^ n))
          have HAp := hid (fun i k => menus_apart rows (2 ^ n) i k hnn)
          have HFd := hid (menus_feed rows)
          clear o6 p4 hL4 i4 q6 HMn HPd HMem hbd6
          generalize menusTo rows (2 ^ n) = ms at *
          go_wp2
          go_loopw [11] (fun i wr => ∃ k m : Nat, k ≤ ms.length ∧ i = .int .i64 k ∧ wr = w6.drewN m) (fun i _ => ms.length - (intOf i).toNat)
          case atStart => exact ⟨0, 0, Nat.zero_le _, rfl, by simp [World.drewN]⟩
          case round =>
            obtain ⟨k, m, hk, rfl, rfl⟩ := hrel
            by_cases hlt2 : k < ms.length
            · rcases i6.at_ with e | ⟨b, off, rfl, hc⟩
              · rw [e] at hlt2; simp at hlt2
              have c0 := hc k hlt2
              have HC := hid hc
              obtain ⟨M, hM1, hM2, hM3⟩ := (HG.out _).1 (getI_mem ms k hlt2)
              have HM3 := hid hM3
              rw [hM3] at c0
              clear hc hM3
              go_wp2
              go_loopw [12] (fun i wr => ∃ j m : Nat, j ≤ rows.length ∧ i = .int .i64 j ∧ wr = w6.drewN m) (fun i _ => rows.length - (intOf i).toNat)
              case atStart => exact ⟨0, m, Nat.zero_le _, rfl, rfl⟩
              case round =>
                obtain ⟨j, m', hj, rfl, rfl⟩ := hrel
                by_cases hjl : j < rows.length
                · rcases hL6.at_ with e | ⟨b2, off2, rfl, hc2⟩
                  · rw [e] at hjl; simp at hjl
                  have d0 := hc2 j hjl
                  obtain ⟨hx0, hx1⟩ := HRr.out _ (getI_mem rows j hjl)
                  have hne := HFd.out M hM2 _ (getI_mem rows j hjl)
                  obtain ⟨x, hx⟩ := Int.eq_ofNat_of_zero_le hx0
                  rw [hx] at d0 hne hx1
                  rw [Int.toNat_natCast] at hne
                  have ht : (bits .and .i64 (x : Int) (M : Int) == 0) = false := by rw [i64_and_n x M (by omega) (by omega)]; simpa using hne
                  clear hc2 hx hne hx0
                  go_wp2
                  go_quiet (fail)
                  go_wp2
                  go_roundw
                  case rel => exact ⟨j + 1, _, by omega, by go_num, rfl⟩
                  case measure => simp [intOf]; omega
                · go_wp2
                  go_loopw [13] (fun i wr => ∃ j m : Nat, j ≤ k ∧ i = .int .i64 j ∧ wr = w6.drewN m) (fun i _ => k - (intOf i).toNat)
                  case atStart => exact ⟨0, m', Nat.zero_le _, rfl, rfl⟩
                  case round =>
                    obtain ⟨q, m2, hq, rfl, rfl⟩ := hrel
                    by_cases hqk : q < k
                    · have d0 := HC.out q (by omega)
                      obtain ⟨A, B, hA, hB, hA1, hB1, hne1, hne2⟩ := HAp.out k q hqk hlt2
                      rw [hB] at d0
                      obtain rfl : A = M := by have := HM3.out; omega
                      have ht1 : (bits .and .i64 (A : Int) (B : Int) == (A : Int)) = false := by rw [i64_and_n A B (by omega) (by omega)]; simp; omega
                      have ht2 : (bits .and .i64 (A : Int) (B : Int) == (B : Int)) = false := by rw [i64_and_n A B (by omega) (by omega)]; simp; omega
                      clear hA hB hne1 hne2
                      go_wp2
                      go_quiet (fail)
                      go_wp2
                      go_roundw
                      case rel => exact ⟨q + 1, _, by omega, by go_num, rfl⟩
                      case measure => simp [intOf]; omega
                    · go_wp2
                      go_roundw
                      case rel => exact ⟨k + 1, _, by omega, by go_num, rfl⟩
                      case measure => simp [intOf]; omega
            · go_wp2
              go_ret
              exact ⟨below_drewN p6 _, rfl⟩
    · have hz' : (validTab rows d != 0) = true := by simp [hz]
      have hpr : pairsR rows d = ([], validTab rows d) := by rw [pairsR, if_pos hz]
      rw [hpr]
      dsimp only [List.length_nil]
      go_wp2
      go_ret
      exact ⟨p4, rfl⟩
end Go.Proofs.Ytongejajkifccab
