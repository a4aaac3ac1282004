/- The Go functions Pairs of package dish and of the document. -/
import Derived.Test.YtongejajkifccabTabSets
import Derived.Test.YtongejajkifccabPairsM
import Derived.Deep.AppendLies
set_option linter.unusedVariables false
namespace Go.Proofs.Ytongejajkifccab
open Go.RowKit

theorem pair_info : (Try.prog.info? 58).map (fun i => (i.zero, i.size, i.bytes)) = some (some (.agg #[.int .i64 0, .int .i64 0]), 2, 16) := by kernel_rfl
def pairCells (l : List (Int × Int)) : List Value := l.flatMap (fun s => [Value.int .i64 s.1, Value.int .i64 s.2])
theorem pairCells_len (l : List (Int × Int)) : (pairCells l).length = l.length * 2 := by
  induction l with
  | nil => rfl
  | cons x t ih => simp [pairCells] at ih ⊢; omega
theorem pairCells_at (l : List (Int × Int)) (i : Nat) (h : i < l.length) : (pairCells l)[i * 2]? = some (.int .i64 (l[i]?.getD (0, 0)).1) ∧ (pairCells l)[i * 2 + 1]? = some (.int .i64 (l[i]?.getD (0, 0)).2) := by
  induction l generalizing i with
  | nil => simp at h
  | cons x t ih =>
    cases i with
    | zero => simp [pairCells]
    | succ i =>
      have := ih i (by simpa using h)
      have e1 : (i + 1) * 2 = i * 2 + 1 + 1 := by omega
      rw [e1]
      simpa [pairCells] using this
theorem pairCells_snoc (l : List (Int × Int)) (s : Int × Int) : pairCells (l ++ [s]) = pairCells l ++ [.int .i64 s.1, .int .i64 s.2] := by simp [pairCells]

/-- A slice of pairs that reads as a list. -/
structure PairsAt (w : World) (a : Option Addr) (l : List (Int × Int)) : Prop where
  len : l.length ≤ 140737488355328
  at_ : l = [] ∨ ∃ b off, a = some ⟨b, off, none⟩ ∧ ∀ i, i < l.length → w.cell? ⟨b, off + i * 2, none⟩ = some (.int .i64 (l[i]?.getD (0, 0)).1) ∧ w.cell? ⟨b, off + i * 2 + 1, none⟩ = some (.int .i64 (l[i]?.getD (0, 0)).2)
theorem PairsAt.below {w w' : World} {a : Option Addr} {l : List (Int × Int)} (h : PairsAt w a l) (hb : Below w.heap.size w w') : PairsAt w' a l := by
  refine ⟨h.len, ?_⟩
  rcases h.at_ with e | ⟨b, off, ha, hc⟩
  · exact .inl e
  · exact .inr ⟨b, off, ha, fun i hi => by
      obtain ⟨h1, h2⟩ := hc i hi
      exact ⟨by rw [hb.cell (cell_lt h1)]; exact h1, by rw [hb.cell (cell_lt h2)]; exact h2⟩⟩
def OwnP (w : World) (base : Nat) (v : Value) (l : List (Int × Int)) : Prop := w.ownsRow base 58 2 v l.length (pairCells l)
theorem OwnP.sl {w : World} {base : Nat} {v : Value} {l : List (Int × Int)} (h : OwnP w base v l) : ∃ A c, v = .slice A l.length c := by
  rcases h.2 with ⟨hv, hn⟩ | ⟨g, c, cur, hv, _⟩
  · exact ⟨none, 0, by rw [hv, hn]⟩
  · exact ⟨_, _, hv⟩
theorem OwnP.at_ {w : World} {base : Nat} {A : Option Addr} {c : Nat} {l : List (Int × Int)} (h : OwnP w base (.slice A l.length c) l) (hl : l.length ≤ 140737488355328) : PairsAt w A l := by
  refine ⟨hl, ?_⟩
  have h2 := h.2
  rcases h2 with ⟨_, hn⟩ | ⟨g, cap, cur, hv, _⟩
  · exact .inl (List.eq_nil_of_length_eq_zero hn)
  · simp only [Value.slice.injEq] at hv
    obtain ⟨rfl, _, rfl⟩ := hv
    refine .inr ⟨g, 0, rfl, fun i hi => ?_⟩
    have h1 := pairCells_at l i hi
    unfold OwnP at h
    rw [Nat.zero_add, h.cellAt _ (by omega), h.cellAt _ (by omega)]
    exact h1
def OwnPR (w : World) (base : Nat) (p : List (Int × Int) × Int) (en : Ending) (w' : World) : Prop :=
  Below w.heap.size w w' ∧ ∃ A c, en = .returned (.tuple #[.slice A p.1.length c, .int .i64 p.2]) ∧ OwnP w' base (.slice A p.1.length c) p.1
theorem OwnP.nil (w : World) (base : Nat) : OwnP w base (.slice none 0 0) [] := ⟨rfl, .inl ⟨rfl, rfl⟩⟩

set_option maxRecDepth 100000 in
set_option maxHeartbeats 4000000 in
theorem pairs_any (a : Option Addr) (rows : List Int) (cap : Nat) (d : Int) (w : World) (h : Ints w a rows) :
  Calls Try.prog 19 #[.slice a rows.length cap, .int .i64 d] w (OwnPR w w.heap.size (pairsR rows d)) := by
  have HV := hid (validTab_any a rows cap d · )
  by_cases hz : validTab rows d = 0
  · obtain ⟨h0, h8, hr8, hrr⟩ := validTab_ok hz
    have HM := hid (show pairsR rows d = (pairsTo d.toNat rows (2 ^ rows.length), 0) by rw [pairsR, if_neg (by simp [hz])])
    have HZ := hid hz
    obtain ⟨n, rfl⟩ := Int.eq_ofNat_of_zero_le h0
    rw [Int.toNat_natCast] at HM
    have hn8 : n ≤ 8 := by omega
    have hp : 2 ^ rows.length ≤ 256 := Nat.pow_le_pow_right (n := 2) (by omega) hr8
    have hpn : 2 ^ n ≤ 256 := Nat.pow_le_pow_right (n := 2) (by omega) hn8
    have HP := hid (pow_wrap rows.length (by omega))
    have HRr := hid (fun x hx => (hrr x hx).1)
    have HE := hid (fun j => eatN_lt n rows (comN n rows j rows.length) rows.length (comN_lt n rows j rows.length))
    have HCl := hid (fun j => comN_lt n rows j rows.length)
    obtain ⟨i0, hi, hz0, hz1, hz2⟩ := info_parts pair_info
    clear hz hrr
    have HH := hid h
    have HTs := hid (show ∀ j, pairsTo n rows (j + 1) = if eatN rows (comN n rows j rows.length) rows.length = j then pairsTo n rows j ++ [((j : Int), ((comN n rows j rows.length : Nat) : Int))] else pairsTo n rows j from fun j => rfl)
    go_enter Try.func19, Try.ntmps19
    go_wp2_with fail
    refine (HV.out _ h).mono ?_
    rintro e w' ⟨rfl, rfl⟩
    rw [HZ.out]
    clear HV h
    go_wp2
    rw [HP.out]
    generalize hN : 2 ^ rows.length = N at *
    go_loopw [7, 19] (fun o i wr => ∃ j : Nat, j ≤ N ∧ i = .int .i64 j ∧ OwnP wr w.heap.size o (pairsTo n rows j) ∧ Below w.heap.size w wr) (fun _ i _ => N - (intOf i).toNat)
    case atStart => exact ⟨0, Nat.zero_le _, rfl, OwnP.nil _ _, Below.refl _ _⟩
    case round =>
      obtain ⟨j, hj, rfl, hown, hB⟩ := hrel
      by_cases hlt : j < N
      · have hlen := pairsTo_len n rows j
        have hI := HH.out.below hB
        have hlt' : (j : Int) < (N : Int) := by omega
        have hcl := HCl.out j
        have HT := hid (HTs.out j)
        have HC := hid (fun (w' : World) (hI : Ints w' a rows) => commonDishes_any a rows cap n j w' hI HRr.out hn8 (by omega) hr8)
        have HX := hid (fun (w' : World) (hI : Ints w' a rows) => eaters_any a rows cap (comN n rows j rows.length) w' hI HRr.out (by omega) hr8)
        generalize comN n rows j rows.length = cm at *
        generalize pairsTo n rows j = pre at *
        by_cases hf : eatN rows cm rows.length = j
        · have HT2 := hid (show pairsTo n rows (j + 1) = pre ++ [((j : Int), (cm : Int))] by rw [HT.out, if_pos hf])
          rw [hf] at HX
          go_wp2_with fail
          refine (HC.out _ hI).mono ?_
          rintro e w' ⟨rfl, rfl⟩
          go_wp2_with fail
          refine (HX.out _ hI).mono ?_
          rintro e w' ⟨rfl, rfl⟩
          have ht : ((j : Int) == (j : Int)) = true := by simp
          clear hI hf HT
          unfold OwnP at hown
          go_wp2_with (at_builtin; refine wpList_append_own _ rfl _ _ 54 rfl w.heap.size 58 i0 (.agg #[.int .i64 0, .int .i64 0]) 2 16 Try.underlying54 hi hz0 hz1 hz2 rfl (by decide) _ _ _ rfl (hown.alloc _) ⟨wr.heap.size, 0, none⟩ 1 1 [.int .i64 (j : Int), .int .i64 (cm : Int)] rfl rfl ?c1 ?c2 ?c3 ?c4 ?c5 ?_)
          case c1 => exact World.news_of_block (cs := #[.int .i64 (j : Int), .int .i64 (cm : Int)]) (t := 58) (fr := (0, 0)) (heap_alloc_new wr _)
          case c2 => simp [Value.oneCell']
          case c3 => unfold maxLen; omega
          case c4 => omega
          case c5 => have := hB.size; simp; omega
          intro v' w4 hown3 hgrow _
          have p4 := (hB.alloc hB.size _).grown hgrow (by have := hB.size; simp; omega) (fun q hq => by have := (hown.lt q hq).1; omega)
          clear hgrow hown
          go_wp2
          go_roundw
          case rel => exact ⟨j + 1, by omega, by go_num, by rw [HT2.out]; unfold OwnP; rw [pairCells_snoc]; simpa using hown3, p4⟩
          case measure => simp [intOf]; omega
        · have HT2 := hid (show pairsTo n rows (j + 1) = pre by rw [HT.out, if_neg hf])
          have hfe : (((eatN rows cm rows.length : Nat) : Int) == (j : Int)) = false := by simp; omega
          generalize eatN rows cm rows.length = ec at *
          go_wp2_with fail
          refine (HC.out _ hI).mono ?_
          rintro e w' ⟨rfl, rfl⟩
          go_wp2_with fail
          refine (HX.out _ hI).mono ?_
          rintro e w' ⟨rfl, rfl⟩
          go_wp2
          go_roundw
          case rel => exact ⟨j + 1, by omega, by go_num, by rw [HT2.out]; exact hown, hB⟩
          case measure => simp [intOf]; omega
      · obtain rfl : j = N := by omega
        obtain ⟨A, c, rfl⟩ := hown.sl
        go_wp2
        refine bodyPost_ret (v := .tuple #[.slice A (pairsTo n rows j).length c, .int .i64 0]) (by simp [results, Try.results19, go_sem]) rfl ⟨hB, A, c, by rw [HM.out], by rw [HM.out]; exact hown⟩
  · have hz' : (validTab rows d != 0) = true := by simp [hz]
    have HM := hid (show pairsR rows d = ([], validTab rows d) by rw [pairsR, if_pos hz])
    clear hz
    go_enter Try.func19, Try.ntmps19
    go_wp2_with fail
    refine (HV.out _ h).mono ?_
    rintro e w' ⟨rfl, rfl⟩
    go_wp2
    refine bodyPost_ret (v := .tuple #[.slice none 0 0, .int .i64 (validTab rows d)]) (by simp [results, Try.results19, go_sem]) rfl ⟨Below.refl _ _, none, 0, by rw [HM.out]; rfl, by rw [HM.out]; exact OwnP.nil _ _⟩

end Go.Proofs.Ytongejajkifccab
