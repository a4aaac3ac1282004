/- spansOf of package order. (Written by wip/tools/gen_orspans.py.) -/
import Derived.Test.YtkepjoociidkcaaOrS
import Derived.Shelf.Abstract
set_option linter.unusedVariables false
namespace Go.Proofs.Ytkepjoociidkcaa
open Go.RowKit

/-- What a function tells of a day, as something or nothing. -/
def optG (g2 : Int → Int × Bool) (d : Int) : Option Int := if (g2 d).2 = true then some (g2 d).1 else none

set_option maxRecDepth 100000 in
set_option maxHeartbeats 4000000 in
theorem spansOf_own (F : Nat) (cb : Array Value) (g2 : Int → Int × Bool) (w : World) (eg : ∀ args w, (callFunc F args).run Try.prog w = .ok (.enter F args) w)
  (hf : ∀ wr, Below w.heap.size w wr → ∀ k : Nat, k < 1000 → Calls Try.prog F (#[.int .i64 k] ++ cb) wr (fun en w' => Below wr.heap.size wr w' ∧ en = .returned (.tuple #[.int .i64 (g2 k).1, .bool (g2 k).2]))) :
  Calls Try.prog 63 #[.func (.func F) #[] cb] w (SpnsO w (spTo (optG g2) 1000)) := by
  obtain ⟨i0, hinf, hz0, hz1, hz2⟩ := info_parts sp_info
  have HF := hid hf
  clear hf
  go_enter Try.func63, Try.ntmps63
  go_wp2
  go_loopw [3, 8] (fun o i wr => ∃ (k n : Nat), k ≤ 1000 ∧ i = .int .i64 k ∧ n ≤ k ∧ Hid (OwnSp wr w.heap.size o n (spTo (optG g2) k)) ∧ Below w.heap.size w wr) (fun _ i _ => 1000 - (intOf i).toNat)
  case atStart => exact ⟨0, 0, Nat.zero_le _, rfl, Nat.le_refl _, ⟨rfl, rfl, .inl ⟨rfl, rfl⟩⟩, Below.refl _ _⟩
  case round =>
    obtain ⟨k, n, hk, rfl, hnk, HO, hB⟩ := hrel
    have HO2 := HO.out
    obtain ⟨A, c, rfl⟩ := HO2.sl
    clear HO2
    by_cases hlt : k < 1000
    · have hc := hid (HF.out wr hB k hlt)
      cases hb : (g2 (k : Int)).2 with
      | false =>
        have HT := hid (show spTo (optG g2) (k + 1) = spTo (optG g2) k by show (match optG g2 (k : Int) with | none => _ | some m => _) = _; rw [optG, if_neg (by rw [hb]; simp)])
        rw [hb] at hc
        clear hb
        generalize (g2 (k : Int)).1 = m at *
        go_wp2_with fail
        refine hc.out.mono ?_
        rintro e w1 ⟨q1, rfl⟩
        have hB1 := hB.trans (q1.mono hB.size)
        have HO1 := hid (show OwnSp w1 w.heap.size (.slice A n c) n (spTo (optG g2) k) from ⟨HO.out.1, own_below HO.out.2 q1⟩)
        go_wp2
        go_roundw
        case rel => exact ⟨k + 1, n, by omega, by go_num, by omega, by unfold Hid; rw [HT.out]; exact HO1.out, hB1⟩
        case measure => simp [intOf]; omega
      | true =>
        have HT := hid (show spTo (optG g2) (k + 1) = addDay (spTo (optG g2) k) (k : Int) (g2 (k : Int)).1 by show (match optG g2 (k : Int) with | none => _ | some m => _) = _; rw [optG, if_pos hb])
        rw [hb] at hc
        clear hb
        generalize (g2 (k : Int)).1 = m at *
        generalize spTo (optG g2) k = s at *
        go_wp2_with fail
        refine hc.out.mono ?_
        rintro e w1 ⟨q1, rfl⟩
        have hB1 := hB.trans (q1.mono hB.size)
        have HO1 := hid (show OwnSp w1 w.heap.size (.slice A n c) n s from ⟨HO.out.1, own_below HO.out.2 q1⟩)
        clear HO hc q1
        by_cases h0 : n = 0
        · subst h0
          have HA := hid (show addDay s (k : Int) m = s ++ [⟨k, k + 1, m⟩] by unfold addDay; rw [if_neg (by have := HO1.out.1; omega)])
          have hS2 := HO1.out.2
          have HON := hid HO1.out.1
          have hzB := hB1.size
          clear HO1
          go_wp2_with (at_builtin; refine wpList_append_own _ rfl _ _ 42 rfl w.heap.size 66 i0 (.agg #[.int .i64 0, .int .i64 0, .int .i64 0]) 3 24 Try.underlying42 hinf hz0 hz1 hz2 rfl (by decide) _ _ _ rfl (hS2.alloc _) ⟨w1.heap.size, 0, none⟩ 1 1 [.int .i64 (k : Int), .int .i64 ((k : Int) + 1), .int .i64 m] rfl rfl ?c1 ?c2 ?c3 ?c4 ?c5 ?_)
          case c1 =>
            have := World.news_of_block (cs := #[.int .i64 (k : Int), .int .i64 ((k : Int) + 1), .int .i64 m]) (t := 66) (fr := (0, 0)) (heap_alloc_new w1 (.cells #[.int .i64 (k : Int), .int .i64 ((k : Int) + 1), .int .i64 m] 66))
            simpa using this
          case c2 => simp [Value.oneCell']
          case c3 => unfold maxLen; omega
          case c4 => omega
          case c5 => simp; omega
          intro v' w6 hown2 hgrow _
          have hnb : ∀ q, some q = (Value.slice A 0 c).ownBlock → w.heap.size ≤ q ∧ q < w1.heap.size := fun q hq => hS2.lt q hq.symm
          have p6 := (hB1.alloc hB1.size _).grown hgrow (by simp; omega) (fun q hq => (hnb q hq.symm).1)
          clear hgrow hS2 hnb
          go_wp2
          go_roundw
          case rel => exact ⟨k + 1, 0 + 1, by omega, by go_num, by omega, ⟨by rw [HT.out, HA.out]; simp [HON.out], by rw [HT.out, HA.out, spCells_snoc]; simpa using hown2⟩, p6⟩
          case measure => simp [intOf]; omega
        · obtain ⟨j, rfl⟩ : ∃ j, n = j + 1 := ⟨n - 1, by omega⟩
          clear h0
          obtain ⟨g, rfl, hg1, hg2⟩ := HO1.out.place (by omega)
          obtain ⟨c0, c1, c2⟩ := HO1.out.cells j (by omega)
          have f1 := HO1.out.2.frozenAt (j * 3 + 1)
          have HE := hid (show sAt s (s.length - 1) = sAt s j by rw [HO1.out.1]; rfl)
          have HL := hid HO1.out.1
          have HSet := hid (fun y => spCells_set s j (by have := HO1.out.1; omega) y)
          have jN : decide ((0 : Int) < (j : Int) + 1) = true := by simp <;> omega
          have jN2 : decide (0 < j + 1) = true := by simp
          have jI : (0 : Int) ≤ (j : Int) := by omega
          have jL : (j : Int) < ((j + 1 : Nat) : Int) := by omega
          generalize sAt s j = x at *
          by_cases ht : x.t = (k : Int)
          · by_cases hm : x.m = m
            · have HA := hid (show addDay s (k : Int) m = s.set j ⟨x.f, x.t + 1, x.m⟩ by
                unfold addDay; rw [HE.out, if_pos ⟨by rw [HL.out]; omega, ht, hm⟩, HL.out]; first | done | rfl)
              have t1 : (x.t == (k : Int)) = true := by simp [ht]
              have t2 : (x.m == m) = true := by simp [hm]
              have t3 : x.t ≤ 1000 := by omega
              have t4 : 0 ≤ x.t := by omega
              have HSt := hid (HO1.out.2.stored (j * 3 + 1) (.int .i64 (x.t + 1)))
              have HBn := hid (hB1.setCell (p := ⟨g, j * 3 + 1, none⟩) (by exact hg1) (.int .i64 (x.t + 1)))
              clear ht hm c0
              go_wp2
              go_roundw
              case rel => exact ⟨k + 1, j + 1, by omega, by go_num, by omega, ⟨by rw [HT.out, HA.out]; simp [HL.out], by rw [HT.out, HA.out]; have := HSt.out.1; rw [HSet.out] at this; exact this⟩, HBn.out⟩
              case measure => simp [intOf]; omega
            · have HA := hid (show addDay s (k : Int) m = s ++ [⟨k, k + 1, m⟩] by unfold addDay; rw [HE.out, if_neg (fun h => hm h.2.2)])
              have t1 : (x.t == (k : Int)) = true := by simp [ht]
              have t2 : (x.m == m) = false := by simp [hm]
              clear ht hm
              have hS2 := HO1.out.2
              have HON := hid HO1.out.1
              have hzB := hB1.size
              clear HO1
              go_wp2_with (at_builtin; refine wpList_append_own _ rfl _ _ 42 rfl w.heap.size 66 i0 (.agg #[.int .i64 0, .int .i64 0, .int .i64 0]) 3 24 Try.underlying42 hinf hz0 hz1 hz2 rfl (by decide) _ _ _ rfl (hS2.alloc _) ⟨w1.heap.size, 0, none⟩ 1 1 [.int .i64 (k : Int), .int .i64 ((k : Int) + 1), .int .i64 m] rfl rfl ?c1 ?c2 ?c3 ?c4 ?c5 ?_)
              case c1 =>
                have := World.news_of_block (cs := #[.int .i64 (k : Int), .int .i64 ((k : Int) + 1), .int .i64 m]) (t := 66) (fr := (0, 0)) (heap_alloc_new w1 (.cells #[.int .i64 (k : Int), .int .i64 ((k : Int) + 1), .int .i64 m] 66))
                simpa using this
              case c2 => simp [Value.oneCell']
              case c3 => unfold maxLen; omega
              case c4 => omega
              case c5 => simp; omega
              intro v' w6 hown2 hgrow _
              have hnb : ∀ q, some q = (Value.slice (some ⟨g, 0, none⟩) (j + 1) c).ownBlock → w.heap.size ≤ q ∧ q < w1.heap.size := fun q hq => hS2.lt q hq.symm
              have p6 := (hB1.alloc hB1.size _).grown hgrow (by simp; omega) (fun q hq => (hnb q hq.symm).1)
              clear hgrow hS2 hnb
              go_wp2
              go_roundw
              case rel => exact ⟨k + 1, (j + 1) + 1, by omega, by go_num, by omega, ⟨by rw [HT.out, HA.out]; simp [HON.out], by rw [HT.out, HA.out, spCells_snoc]; simpa using hown2⟩, p6⟩
              case measure => simp [intOf]; omega
          · have HA := hid (show addDay s (k : Int) m = s ++ [⟨k, k + 1, m⟩] by unfold addDay; rw [HE.out, if_neg (fun h => ht h.2.1)])
            have t1 : (x.t == (k : Int)) = false := by simp [ht]
            clear ht
            have hS2 := HO1.out.2
            have HON := hid HO1.out.1
            have hzB := hB1.size
            clear HO1
            go_wp2_with (at_builtin; refine wpList_append_own _ rfl _ _ 42 rfl w.heap.size 66 i0 (.agg #[.int .i64 0, .int .i64 0, .int .i64 0]) 3 24 Try.underlying42 hinf hz0 hz1 hz2 rfl (by decide) _ _ _ rfl (hS2.alloc _) ⟨w1.heap.size, 0, none⟩ 1 1 [.int .i64 (k : Int), .int .i64 ((k : Int) + 1), .int .i64 m] rfl rfl ?c1 ?c2 ?c3 ?c4 ?c5 ?_)
            case c1 =>
              have := World.news_of_block (cs := #[.int .i64 (k : Int), .int .i64 ((k : Int) + 1), .int .i64 m]) (t := 66) (fr := (0, 0)) (heap_alloc_new w1 (.cells #[.int .i64 (k : Int), .int .i64 ((k : Int) + 1), .int .i64 m] 66))
              simpa using this
            case c2 => simp [Value.oneCell']
            case c3 => unfold maxLen; omega
            case c4 => omega
            case c5 => simp; omega
            intro v' w6 hown2 hgrow _
            have hnb : ∀ q, some q = (Value.slice (some ⟨g, 0, none⟩) (j + 1) c).ownBlock → w.heap.size ≤ q ∧ q < w1.heap.size := fun q hq => hS2.lt q hq.symm
            have p6 := (hB1.alloc hB1.size _).grown hgrow (by simp; omega) (fun q hq => (hnb q hq.symm).1)
            clear hgrow hS2 hnb
            go_wp2
            go_roundw
            case rel => exact ⟨k + 1, (j + 1) + 1, by omega, by go_num, by omega, ⟨by rw [HT.out, HA.out]; simp [HON.out], by rw [HT.out, HA.out, spCells_snoc]; simpa using hown2⟩, p6⟩
            case measure => simp [intOf]; omega
    · obtain rfl : k = 1000 := by omega
      have HL := hid HO.out.1
      have hat := hid (HO.out.at_ (by omega))
      have hnew := hid (own_new HO.out.2)
      clear HO
      go_wp2
      go_ret
      exact ⟨hB, A, c, by rw [HL.out]; rfl, hat.out, hnew.out⟩
theorem spansOf_any (F : Nat) (cb : Array Value) (g2 : Int → Int × Bool) (w : World) (eg : ∀ args w, (callFunc F args).run Try.prog w = .ok (.enter F args) w)
  (hf : ∀ wr, Below w.heap.size w wr → ∀ k : Nat, k < 1000 → Calls Try.prog F (#[.int .i64 k] ++ cb) wr (fun en w' => Below wr.heap.size wr w' ∧ en = .returned (.tuple #[.int .i64 (g2 k).1, .bool (g2 k).2]))) :
  Calls Try.prog 63 #[.func (.func F) #[] cb] w (SpnsR w (spTo (optG g2) 1000)) :=
  (spansOf_own F cb g2 w eg hf).mono fun _ _ h => h.r
end Go.Proofs.Ytkepjoociidkcaa
