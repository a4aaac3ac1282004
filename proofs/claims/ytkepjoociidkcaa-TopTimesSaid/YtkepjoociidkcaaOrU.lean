/- spans of the document. (Written by wip/tools/gen_orspans.py.) -/
import Derived.Test.YtkepjoociidkcaaOrS
import Derived.Test.YtkepjoociidkcaaOrR
set_option linter.unusedVariables false
namespace Go.Proofs.Ytkepjoociidkcaa
open Go.RowKit

/-- The days on which another meal is known at a minute than before, by the document. -/
def gRef (l : List Fct) (c before at_ : Int) (d : Int) : Option Int := if refMeal l at_ c d = refMeal l before c d then none else some (refMeal l at_ c d)

set_option maxRecDepth 100000 in
set_option maxHeartbeats 4000000 in
theorem rspans_own (a : Option Addr) (l : List Fct) (cap : Nat) (before at_ ch : Int) (w : World) (hl : FactsAt w a l) :
  Calls Try.prog 65 #[.slice a l.length cap, .int .i64 before, .int .i64 at_, .int .i64 ch] w (SpnsO w (spTo (gRef l ch before at_) 1000)) := by
  obtain ⟨i0, hinf, hz0, hz1, hz2⟩ := info_parts sp_info
  have HF := hid (fun wr (hB : Below w.heap.size w wr) at_ (k : Int) => rknown_any a l cap at_ ch k wr (hl.below hB))
  have hlen := hl.len
  clear hl
  go_enter Try.func65, Try.ntmps65
  go_wp2
  go_loopw [9, 10] (fun o i wr => ∃ (k n : Nat), k ≤ 1000 ∧ i = .int .i64 k ∧ n ≤ k ∧ Hid (OwnSp wr w.heap.size o n (spTo (gRef l ch before at_) k)) ∧ Below w.heap.size w wr) (fun _ i _ => 1000 - (intOf i).toNat)
  case atStart => exact ⟨0, 0, Nat.zero_le _, rfl, Nat.le_refl _, ⟨rfl, rfl, .inl ⟨rfl, rfl⟩⟩, Below.refl _ _⟩
  case round =>
    obtain ⟨k, n, hk, rfl, hnk, HO, hB⟩ := hrel
    have HO2 := HO.out
    obtain ⟨A, c, rfl⟩ := HO2.sl
    clear HO2
    by_cases hlt : k < 1000
    · have hc := hid (HF.out wr hB at_ k)
      have hc2 := hid (HF.out wr hB before k)
      by_cases hb : refMeal l at_ ch (k : Int) = refMeal l before ch (k : Int)
      · have HT := hid (show spTo (gRef l ch before at_) (k + 1) = spTo (gRef l ch before at_) k by show (match gRef l ch before at_ (k : Int) with | none => _ | some m => _) = _; rw [gRef, if_pos hb])
        rw [← hb] at hc2
        clear hb
        generalize refMeal l at_ ch (k : Int) = m at *
        go_wp2_with fail
        refine hc.out.mono ?_
        rintro e w' ⟨rfl, rfl⟩
        go_wp2_with fail
        refine hc2.out.mono ?_
        rintro e w' ⟨rfl, rfl⟩
        go_wp2
        go_roundw
        case rel => exact ⟨k + 1, n, by omega, by go_num, by omega, by unfold Hid; rw [HT.out]; exact HO.out, hB⟩
        case measure => simp [intOf]; omega
      · have HT := hid (show spTo (gRef l ch before at_) (k + 1) = addDay (spTo (gRef l ch before at_) k) (k : Int) (refMeal l at_ ch (k : Int)) by show (match gRef l ch before at_ (k : Int) with | none => _ | some m => _) = _; rw [gRef, if_neg hb])
        have hb' : (refMeal l at_ ch (k : Int) == refMeal l before ch (k : Int)) = false := by simp [hb]
        clear hb
        generalize refMeal l at_ ch (k : Int) = m at *
        generalize refMeal l before ch (k : Int) = m2 at *
        generalize spTo (gRef l ch before at_) k = s at *
        go_wp2_with fail
        refine hc.out.mono ?_
        rintro e w' ⟨rfl, rfl⟩
        go_wp2_with fail
        refine hc2.out.mono ?_
        rintro e w1 ⟨hw1, rfl⟩
        obtain rfl := hw1
        have hB1 := hB
        have HO1 := HO
        clear HO hc hc2
        by_cases h0 : n = 0
        · subst h0
          have HA := hid (show addDay s (k : Int) m = s ++ [⟨k, k + 1, m⟩] by unfold addDay; rw [if_neg (by have := HO1.out.1; omega)])
          have hS2 := HO1.out.2
          have HON := hid HO1.out.1
          have hzB := hB1.size
          clear HO1
          go_wp2_with (at_builtin; refine wpList_append_own _ rfl _ _ 42 rfl w.heap.size 66 i0 (.agg #[.int .i64 0, .int .i64 0, .int .i64 0]) 3 24 Try.underlying42 hinf hz0 hz1 hz2 rfl (by decide) _ _ _ rfl (hS2.alloc _) ⟨wr.heap.size, 0, none⟩ 1 1 [.int .i64 (k : Int), .int .i64 ((k : Int) + 1), .int .i64 m] rfl rfl ?c1 ?c2 ?c3 ?c4 ?c5 ?_)
          case c1 =>
            have := World.news_of_block (cs := #[.int .i64 (k : Int), .int .i64 ((k : Int) + 1), .int .i64 m]) (t := 66) (fr := (0, 0)) (heap_alloc_new wr (.cells #[.int .i64 (k : Int), .int .i64 ((k : Int) + 1), .int .i64 m] 66))
            simpa using this
          case c2 => simp [Value.oneCell']
          case c3 => unfold maxLen; omega
          case c4 => omega
          case c5 => simp; omega
          intro v' w6 hown2 hgrow _
          have hnb : ∀ q, some q = (Value.slice A 0 c).ownBlock → w.heap.size ≤ q ∧ q < wr.heap.size := fun q hq => hS2.lt q hq.symm
          have p6 := (hB1.alloc hB1.size _).grown hgrow (by simp; omega) (fun q hq => (hnb q hq.symm).1)
          clear hgrow hS2 hnb
          go_wp2
          go_roundw
          case rel => exact ⟨k + 1, 0 + 1, by omega, by go_num, by omega, ⟨by rw [HT.out, HA.out]; simp [HON.out], by rw [HT.out, HA.out, spCells_snoc]; simpa using hown2⟩, p6⟩
          case measure => simp [intOf]; omega
        · obtain ⟨j, rfl⟩ : ∃ j, n = j + 1 := ⟨n - 1, by omega⟩
          clear h0
          obtain ⟨g, rfl, hg1, hg2⟩ := HO1.out.place (by omega)
          obtain ⟨c0, c1, c2⟩ := HO1.out.cells j (by omega)
          have f1 := HO1.out.2.frozenAt (j * 3 + 1)
          have HE := hid (show sAt s (s.length - 1) = sAt s j by rw [HO1.out.1]; rfl)
          have HL := hid HO1.out.1
          have HSet := hid (fun y => spCells_set s j (by have := HO1.out.1; omega) y)
          have jN : decide ((0 : Int) < (j : Int) + 1) = true := by simp <;> omega
          have jN2 : decide (0 < j + 1) = true := by simp
          have jI : (0 : Int) ≤ (j : Int) := by omega
          have jL : (j : Int) < ((j + 1 : Nat) : Int) := by omega
          generalize sAt s j = x at *
          by_cases ht : x.t = (k : Int)
          · by_cases hm : x.m = m
            · have HA := hid (show addDay s (k : Int) m = s.set j ⟨x.f, x.t + 1, x.m⟩ by
                unfold addDay; rw [HE.out, if_pos ⟨by rw [HL.out]; omega, ht, hm⟩, HL.out]; first | done | rfl)
              have t1 : (x.t == (k : Int)) = true := by simp [ht]
              have t2 : (x.m == m) = true := by simp [hm]
              have t3 : x.t ≤ 1000 := by omega
              have t4 : 0 ≤ x.t := by omega
              have HSt := hid (HO1.out.2.stored (j * 3 + 1) (.int .i64 (x.t + 1)))
              have HBn := hid (hB1.setCell (p := ⟨g, j * 3 + 1, none⟩) (by exact hg1) (.int .i64 (x.t + 1)))
              clear ht hm c0
              go_wp2
              go_roundw
              case rel => exact ⟨k + 1, j + 1, by omega, by go_num, by omega, ⟨by rw [HT.out, HA.out]; simp [HL.out], by rw [HT.out, HA.out]; have := HSt.out.1; rw [HSet.out] at this; exact this⟩, HBn.out⟩
              case measure => simp [intOf]; omega
            · have HA := hid (show addDay s (k : Int) m = s ++ [⟨k, k + 1, m⟩] by unfold addDay; rw [HE.out, if_neg (fun h => hm h.2.2)])
              have t1 : (x.t == (k : Int)) = true := by simp [ht]
              have t2 : (x.m == m) = false := by simp [hm]
              clear ht hm
              have hS2 := HO1.out.2
              have HON := hid HO1.out.1
              have hzB := hB1.size
              clear HO1
              go_wp2_with (at_builtin; refine wpList_append_own _ rfl _ _ 42 rfl w.heap.size 66 i0 (.agg #[.int .i64 0, .int .i64 0, .int .i64 0]) 3 24 Try.underlying42 hinf hz0 hz1 hz2 rfl (by decide) _ _ _ rfl (hS2.alloc _) ⟨wr.heap.size, 0, none⟩ 1 1 [.int .i64 (k : Int), .int .i64 ((k : Int) + 1), .int .i64 m] rfl rfl ?c1 ?c2 ?c3 ?c4 ?c5 ?_)
              case c1 =>
                have := World.news_of_block (cs := #[.int .i64 (k : Int), .int .i64 ((k : Int) + 1), .int .i64 m]) (t := 66) (fr := (0, 0)) (heap_alloc_new wr (.cells #[.int .i64 (k : Int), .int .i64 ((k : Int) + 1), .int .i64 m] 66))
                simpa using this
              case c2 => simp [Value.oneCell']
              case c3 => unfold maxLen; omega
              case c4 => omega
              case c5 => simp; omega
              intro v' w6 hown2 hgrow _
              have hnb : ∀ q, some q = (Value.slice (some ⟨g, 0, none⟩) (j + 1) c).ownBlock → w.heap.size ≤ q ∧ q < wr.heap.size := fun q hq => hS2.lt q hq.symm
              have p6 := (hB1.alloc hB1.size _).grown hgrow (by simp; omega) (fun q hq => (hnb q hq.symm).1)
              clear hgrow hS2 hnb
              go_wp2
              go_roundw
              case rel => exact ⟨k + 1, (j + 1) + 1, by omega, by go_num, by omega, ⟨by rw [HT.out, HA.out]; simp [HON.out], by rw [HT.out, HA.out, spCells_snoc]; simpa using hown2⟩, p6⟩
              case measure => simp [intOf]; omega
          · have HA := hid (show addDay s (k : Int) m = s ++ [⟨k, k + 1, m⟩] by unfold addDay; rw [HE.out, if_neg (fun h => ht h.2.1)])
            have t1 : (x.t == (k : Int)) = false := by simp [ht]
            clear ht
            have hS2 := HO1.out.2
            have HON := hid HO1.out.1
            have hzB := hB1.size
            clear HO1
            go_wp2_with (at_builtin; refine wpList_append_own _ rfl _ _ 42 rfl w.heap.size 66 i0 (.agg #[.int .i64 0, .int .i64 0, .int .i64 0]) 3 24 Try.underlying42 hinf hz0 hz1 hz2 rfl (by decide) _ _ _ rfl (hS2.alloc _) ⟨wr.heap.size, 0, none⟩ 1 1 [.int .i64 (k : Int), .int .i64 ((k : Int) + 1), .int .i64 m] rfl rfl ?c1 ?c2 ?c3 ?c4 ?c5 ?_)
            case c1 =>
              have := World.news_of_block (cs := #[.int .i64 (k : Int), .int .i64 ((k : Int) + 1), .int .i64 m]) (t := 66) (fr := (0, 0)) (heap_alloc_new wr (.cells #[.int .i64 (k : Int), .int .i64 ((k : Int) + 1), .int .i64 m] 66))
              simpa using this
            case c2 => simp [Value.oneCell']
            case c3 => unfold maxLen; omega
            case c4 => omega
            case c5 => simp; omega
            intro v' w6 hown2 hgrow _
            have hnb : ∀ q, some q = (Value.slice (some ⟨g, 0, none⟩) (j + 1) c).ownBlock → w.heap.size ≤ q ∧ q < wr.heap.size := fun q hq => hS2.lt q hq.symm
            have p6 := (hB1.alloc hB1.size _).grown hgrow (by simp; omega) (fun q hq => (hnb q hq.symm).1)
            clear hgrow hS2 hnb
            go_wp2
            go_roundw
            case rel => exact ⟨k + 1, (j + 1) + 1, by omega, by go_num, by omega, ⟨by rw [HT.out, HA.out]; simp [HON.out], by rw [HT.out, HA.out, spCells_snoc]; simpa using hown2⟩, p6⟩
            case measure => simp [intOf]; omega
    · obtain rfl : k = 1000 := by omega
      have HL := hid HO.out.1
      have hat := hid (HO.out.at_ (by omega))
      have hnew := hid (own_new HO.out.2)
      clear HO
      go_wp2
      go_ret
      exact ⟨hB, A, c, by rw [HL.out]; rfl, hat.out, hnew.out⟩
theorem rspans_any (a : Option Addr) (l : List Fct) (cap : Nat) (before at_ ch : Int) (w : World) (hl : FactsAt w a l) :
  Calls Try.prog 65 #[.slice a l.length cap, .int .i64 before, .int .i64 at_, .int .i64 ch] w (SpnsR w (spTo (gRef l ch before at_) 1000)) :=
  (rspans_own a l cap before at_ ch w hl).mono fun _ _ h => h.r
end Go.Proofs.Ytkepjoociidkcaa
