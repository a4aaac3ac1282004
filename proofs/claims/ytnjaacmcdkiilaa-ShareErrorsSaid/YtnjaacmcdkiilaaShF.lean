/- The claims of schools: next and held of package share. (Written by wip/tools/gen_shnext.py.) -/
import Derived.Test.YtnjaacmcdkiilaaShE
import Derived.Test.YtnjaacmcdkiilaaRowsI
import Derived.Deep.AppendLies
import Derived.IntWalk
set_option linter.unusedVariables false
namespace Go.Proofs.Ytnjaacmcdkiilaa
open Go.RowKit

theorem claim_info : (Try.prog.info? 76).map (fun i => (i.zero, i.size, i.bytes)) = some (some (.agg #[.int .i64 0, .int .i64 0, .int .i64 0]), 3, 24) := by kernel_rfl
def claimCells (l : List ClaimL) : List Value := l.flatMap (fun s => [Value.int .i64 s.1, Value.int .i64 s.2.1, Value.int .i64 s.2.2])
theorem claimCells_at (l : List ClaimL) (i : Nat) (h : i < l.length) : (claimCells l)[i * 3]? = some (.int .i64 (clAt l i).1) ∧ (claimCells l)[i * 3 + 1]? = some (.int .i64 (clAt l i).2.1) ∧ (claimCells l)[i * 3 + 2]? = some (.int .i64 (clAt l i).2.2) := by
  unfold clAt
  induction l generalizing i with
  | nil => simp at h
  | cons x t ih =>
    cases i with
    | zero => simp [claimCells]
    | succ i =>
      have := ih i (by simpa using h)
      have e1 : (i + 1) * 3 = i * 3 + 1 + 1 + 1 := by omega
      rw [e1]
      simpa [claimCells] using this
theorem claimCells_snoc (l : List ClaimL) (s : ClaimL) : claimCells (l ++ [s]) = claimCells l ++ [.int .i64 s.1, .int .i64 s.2.1, .int .i64 s.2.2] := by simp [claimCells]
theorem claimCells_len (l : List ClaimL) : (claimCells l).length = l.length * 3 := by
  induction l with
  | nil => rfl
  | cons x t ih => simp [claimCells] at ih ⊢; omega
/-- A slice of claims that reads as a list. -/
structure ClaimsAt (w : World) (a : Option Addr) (l : List ClaimL) : Prop where
  len : l.length ≤ 140737488355328
  at_ : l = [] ∨ ∃ b off, a = some ⟨b, off, none⟩ ∧ ∀ i, i < l.length → w.cell? ⟨b, off + i * 3, none⟩ = some (.int .i64 (clAt l i).1) ∧ w.cell? ⟨b, off + i * 3 + 1, none⟩ = some (.int .i64 (clAt l i).2.1) ∧ w.cell? ⟨b, off + i * 3 + 2, none⟩ = some (.int .i64 (clAt l i).2.2)
theorem ClaimsAt.below {w w' : World} {a : Option Addr} {l : List ClaimL} (h : ClaimsAt w a l) (hb : Below w.heap.size w w') : ClaimsAt w' a l := by
  refine ⟨h.len, ?_⟩
  rcases h.at_ with e | ⟨b, off, ha, hc⟩
  · exact .inl e
  · exact .inr ⟨b, off, ha, fun i hi => by
      obtain ⟨h1, h2, h3⟩ := hc i hi
      exact ⟨by rw [hb.cell (cell_lt h1)]; exact h1, by rw [hb.cell (cell_lt h2)]; exact h2, by rw [hb.cell (cell_lt h3)]; exact h3⟩⟩
def OwnC (w : World) (base : Nat) (v : Value) (l : List ClaimL) : Prop := w.ownsRow base 76 3 v l.length (claimCells l)
theorem OwnC.sl {w : World} {base : Nat} {v : Value} {l : List ClaimL} (h : OwnC w base v l) : ∃ A c, v = .slice A l.length c := by
  rcases h.2 with ⟨hv, hn⟩ | ⟨g, c, cur, hv, _⟩
  · exact ⟨none, 0, by rw [hv, hn]⟩
  · exact ⟨_, _, hv⟩
theorem OwnC.at_ {w : World} {base : Nat} {A : Option Addr} {c : Nat} {l : List ClaimL} (h : OwnC w base (.slice A l.length c) l) (hl : l.length ≤ 140737488355328) : ClaimsAt w A l := by
  refine ⟨hl, ?_⟩
  have h2 := h.2
  rcases h2 with ⟨_, hn⟩ | ⟨g, cap, cur, hv, _⟩
  · exact .inl (List.eq_nil_of_length_eq_zero hn)
  · simp only [Value.slice.injEq] at hv
    obtain ⟨rfl, _, rfl⟩ := hv
    refine .inr ⟨g, 0, rfl, fun i hi => ?_⟩
    have h1 := claimCells_at l i hi
    unfold OwnC at h
    rw [Nat.zero_add, h.cellAt _ (by omega), h.cellAt _ (by omega), h.cellAt _ (by omega)]
    exact h1
def ClaimsR (w : World) (l : List ClaimL) (en : Ending) (w' : World) : Prop := Below w.heap.size w w' ∧ ∃ A c, en = .returned (.slice A l.length c) ∧ ClaimsAt w' A l
theorem alloc_drew_heap (w : World) (o : Obj) : (w.alloc o).drew.heap.size = w.heap.size + 1 := by simp

set_option maxRecDepth 100000 in
set_option maxHeartbeats 4000000 in
theorem next_0 (oa ma : Option Addr) (os ms : List Int) (oc mc : Nat) (w : World) (ho : Ints w oa os) (hm : Ints w ma ms) (go : okO os = true) (gm : okMs os ms = true) :
  Calls Try.prog 64 #[.agg #[.func (.func 84) #[] #[], .int .i64 1], .slice oa os.length oc, .slice ma ms.length mc] w (ClaimsR w (nextTo 0 os ms os.length)) := by
  obtain ⟨i0, hinf, hz0, hz1, hz2⟩ := info_parts claim_info
  obtain ⟨g1, g2, g3⟩ := okO_len go
  obtain ⟨g4, g5⟩ := okMs_len gm
  have g4a : ms.length ≤ os.length := by omega
  have g4b : os.length ≤ ms.length := by omega
  clear g4
  have hB0 := (Below.refl w.heap.size w).alloc (Nat.le_refl _) (.cells #[.func (.func 84) #[] #[], .int .i64 1] 70)
  have HO := hid (ho.below hB0)
  have HM := hid (hm.below hB0)
  have HBd := hid (fun k hk => allIn_at g5 k hk)
  have HB0 := hid hB0
  clear ho hm g3 g5 go gm hB0
  go_enter Try.func64, Try.ntmps64
  go_wp2
  generalize hwb : w.alloc (.cells #[.func (.func 84) #[] #[], .int .i64 1] 70) = wb at *
  have hf : wb.cell? ⟨w.heap.size, 0, none⟩ = some (.func (.func 84) #[] #[]) := by rw [← hwb]; clear hwb; go_simp
  have hsb : w.heap.size < wb.heap.size := cell_lt hf
  clear hwb
  have HF := hid hf
  clear hf
  go_loopw [7, 12] (fun v i wr => ∃ k : Nat, k ≤ os.length ∧ i = .int .i64 k ∧ OwnC wr wb.heap.size v (nextTo 0 os ms k) ∧ Below wb.heap.size wb wr) (fun _ i _ => os.length - (intOf i).toNat)
  case atStart => exact ⟨0, Nat.zero_le _, rfl, ⟨rfl, .inl ⟨rfl, rfl⟩⟩, Below.refl _ _⟩
  case round =>
    obtain ⟨k, hk, rfl, hS, hB⟩ := hrel
    have hszr := hB.size
    by_cases hlt : k < os.length
    · rcases HO.out.at_ with e | ⟨b, off, rfl, hc⟩
      · rw [e] at hlt; simp at hlt
      rcases HM.out.at_ with e | ⟨bm, om, rfl, hcm⟩
      · rw [e, List.length_nil] at g4b; omega
      have d0 := hc k hlt
      have d1 := hcm k (by omega)
      have hy := HBd.out k (by omega)
      have HN := hid (show nextTo 0 os ms (k + 1) = nextTo 0 os ms k ++ [nextC 0 os ms k] from rfl)
      have HE := hid (show nextC 0 os ms k = ((k : Int), os[k]?.getD 0, stepV 0 (ms[k]?.getD 0)) from rfl)
      have hpl : (nextTo 0 os ms k).length ≤ k := by rw [nextTo_len]; exact Nat.le_refl _
      clear hc hcm
      unfold at0 at HN
      generalize os[k]?.getD 0 = x at *
      generalize ms[k]?.getD 0 = y at *
      generalize nextTo 0 os ms k = pre at *
      have hk0 : (0 : Int) ≤ (k : Int) := Int.natCast_nonneg _
      have hk1 : (k : Int) < (ms.length : Int) := by omega
      have hk2 : (k : Int) < (os.length : Int) := by omega
      have c0 : wr.cell? ⟨b, off + k, none⟩ = some (.int .i64 x) := by rw [hB.cell (cell_lt d0)]; exact d0
      have c1 : wr.cell? ⟨bm, om + k, none⟩ = some (.int .i64 y) := by rw [hB.cell (cell_lt d1)]; exact d1
      have HKp := hid (fun (w' : World) (hb : Below wb.heap.size wb w') => (show w'.cell? ⟨w.heap.size, 0, none⟩ = some (.func (.func 84) #[] #[]) ∧ w'.cell? ⟨bm, om + k, none⟩ = some (.int .i64 y) ∧ Below wb.heap.size wb w' from ⟨by rw [hb.cell (cell_lt HF.out)]; exact HF.out, by rw [hb.cell (cell_lt d1)]; exact d1, hb⟩))
      clear d0 d1

      have HSt := hid (fun w => step0_any y w (by omega) (by omega))
      generalize stepV 0 y = z at *
      unfold OwnC at hS
      go_wp2
      go_region_held3 (fun w' => w'.cell? ⟨w.heap.size, 0, none⟩ = some (.func (.func 84) #[] #[]) ∧ w'.cell? ⟨bm, om + k, none⟩ = some (.int .i64 y) ∧ Below wb.heap.size wb w')
        (first | exact HKp.out _ hB.drew | exact HKp.out _ hB | assumption | exact HKp.out _ (Below.drew (Below.alloc hB hszr _)) | exact HKp.out _ (Below.alloc hB.drew hszr _) | exact HKp.out _ (Below.alloc hB hszr _) | exact HKp.out _ p4)
        (first
          | (go_at_call 84; refine (HSt.out _).mono ?_; rintro en w5 ⟨rfl, rfl⟩)
          | (refine step_append_lies _ (by rfl) _ _ 73 (by rfl) wb.heap.size 76 i0 (.agg #[.int .i64 0, .int .i64 0, .int .i64 0]) 3 24 Try.underlying73 hinf hz0 hz1 hz2 rfl (by omega) u7 pre.length (claimCells pre) (by rfl) ((hS.alloc _).drew) ⟨wr.heap.size, 0, none⟩ 1 1 [.int .i64 (k : Int), .int .i64 x, .int .i64 z] (by rfl) (by rfl) (World.news_of_block (cs := #[.int .i64 (k : Int), .int .i64 x, .int .i64 z]) (t := 76) (fr := (0, 0)) (heap_alloc_new wr _)) (by simp [Value.oneCell']) (by omega) (by unfold maxLen; omega) (by omega) (by simp; omega) (wr.heap.size + 1) (by simp) ?_; intro gg cap w4 hown4 hgrow hat hlt4; have p4 : Below wb.heap.size wb w4 := (hB.alloc hszr _).drew.grown hgrow (by simp; omega) (fun q hq => by have := (hS.lt q hq).1; omega)))
      rename _ ∧ _ => hHeld
      obtain ⟨_, _, p4⟩ := hHeld
      clear HSt
      go_wp2
      go_roundw
      case rel => exact ⟨k + 1, by omega, by go_num, by rw [HN.out, HE.out]; unfold OwnC; rw [claimCells_snoc]; simpa using hown4, p4⟩
      case measure => simp [intOf]; omega

    · obtain rfl : k = os.length := by omega
      have hpl : (nextTo 0 os ms os.length).length ≤ os.length := by rw [nextTo_len]; exact Nat.le_refl _
      generalize nextTo 0 os ms os.length = l at *
      obtain ⟨A4, c4, rfl⟩ := hS.sl
      go_wp2
      go_ret
      exact ⟨HB0.out.trans (hB.mono (by omega)), A4, c4, rfl, hS.at_ (by omega)⟩

set_option maxRecDepth 100000 in
set_option maxHeartbeats 4000000 in
theorem next_1 (oa ma : Option Addr) (os ms : List Int) (oc mc : Nat) (w : World) (ho : Ints w oa os) (hm : Ints w ma ms) (go : okO os = true) (gm : okMs os ms = true) :
  Calls Try.prog 64 #[.agg #[.func (.func 85) #[] #[], .int .i64 2], .slice oa os.length oc, .slice ma ms.length mc] w (ClaimsR w (nextTo 1 os ms os.length)) := by
  obtain ⟨i0, hinf, hz0, hz1, hz2⟩ := info_parts claim_info
  obtain ⟨g1, g2, g3⟩ := okO_len go
  obtain ⟨g4, g5⟩ := okMs_len gm
  have g4a : ms.length ≤ os.length := by omega
  have g4b : os.length ≤ ms.length := by omega
  clear g4
  have hB0 := (Below.refl w.heap.size w).alloc (Nat.le_refl _) (.cells #[.func (.func 85) #[] #[], .int .i64 2] 70)
  have HO := hid (ho.below hB0)
  have HM := hid (hm.below hB0)
  have HBd := hid (fun k hk => allIn_at g5 k hk)
  have HB0 := hid hB0
  clear ho hm g3 g5 go gm hB0
  go_enter Try.func64, Try.ntmps64
  go_wp2
  generalize hwb : w.alloc (.cells #[.func (.func 85) #[] #[], .int .i64 2] 70) = wb at *
  have hf : wb.cell? ⟨w.heap.size, 0, none⟩ = some (.func (.func 85) #[] #[]) := by rw [← hwb]; clear hwb; go_simp
  have hsb : w.heap.size < wb.heap.size := cell_lt hf
  clear hwb
  have HF := hid hf
  clear hf
  go_loopw [7, 12] (fun v i wr => ∃ k : Nat, k ≤ os.length ∧ i = .int .i64 k ∧ OwnC wr wb.heap.size v (nextTo 1 os ms k) ∧ Below wb.heap.size wb wr) (fun _ i _ => os.length - (intOf i).toNat)
  case atStart => exact ⟨0, Nat.zero_le _, rfl, ⟨rfl, .inl ⟨rfl, rfl⟩⟩, Below.refl _ _⟩
  case round =>
    obtain ⟨k, hk, rfl, hS, hB⟩ := hrel
    have hszr := hB.size
    by_cases hlt : k < os.length
    · rcases HO.out.at_ with e | ⟨b, off, rfl, hc⟩
      · rw [e] at hlt; simp at hlt
      rcases HM.out.at_ with e | ⟨bm, om, rfl, hcm⟩
      · rw [e, List.length_nil] at g4b; omega
      have d0 := hc k hlt
      have d1 := hcm k (by omega)
      have hy := HBd.out k (by omega)
      have HN := hid (show nextTo 1 os ms (k + 1) = nextTo 1 os ms k ++ [nextC 1 os ms k] from rfl)
      have HE := hid (show nextC 1 os ms k = ((k : Int), os[k]?.getD 0, stepV 1 (ms[k]?.getD 0)) from rfl)
      have hpl : (nextTo 1 os ms k).length ≤ k := by rw [nextTo_len]; exact Nat.le_refl _
      clear hc hcm
      unfold at0 at HN
      generalize os[k]?.getD 0 = x at *
      generalize ms[k]?.getD 0 = y at *
      generalize nextTo 1 os ms k = pre at *
      have hk0 : (0 : Int) ≤ (k : Int) := Int.natCast_nonneg _
      have hk1 : (k : Int) < (ms.length : Int) := by omega
      have hk2 : (k : Int) < (os.length : Int) := by omega
      have c0 : wr.cell? ⟨b, off + k, none⟩ = some (.int .i64 x) := by rw [hB.cell (cell_lt d0)]; exact d0
      have c1 : wr.cell? ⟨bm, om + k, none⟩ = some (.int .i64 y) := by rw [hB.cell (cell_lt d1)]; exact d1
      have HKp := hid (fun (w' : World) (hb : Below wb.heap.size wb w') => (show w'.cell? ⟨w.heap.size, 0, none⟩ = some (.func (.func 85) #[] #[]) ∧ w'.cell? ⟨bm, om + k, none⟩ = some (.int .i64 y) ∧ Below wb.heap.size wb w' from ⟨by rw [hb.cell (cell_lt HF.out)]; exact HF.out, by rw [hb.cell (cell_lt d1)]; exact d1, hb⟩))
      clear d0 d1

      have HSt := hid (fun w => step1_any y w (by omega) (by omega))
      generalize stepV 1 y = z at *
      unfold OwnC at hS
      go_wp2
      go_region_held3 (fun w' => w'.cell? ⟨w.heap.size, 0, none⟩ = some (.func (.func 85) #[] #[]) ∧ w'.cell? ⟨bm, om + k, none⟩ = some (.int .i64 y) ∧ Below wb.heap.size wb w')
        (first | exact HKp.out _ hB.drew | exact HKp.out _ hB | assumption | exact HKp.out _ (Below.drew (Below.alloc hB hszr _)) | exact HKp.out _ (Below.alloc hB.drew hszr _) | exact HKp.out _ (Below.alloc hB hszr _) | exact HKp.out _ p4)
        (first
          | (go_at_call 85; refine (HSt.out _).mono ?_; rintro en w5 ⟨rfl, rfl⟩)
          | (refine step_append_lies _ (by rfl) _ _ 73 (by rfl) wb.heap.size 76 i0 (.agg #[.int .i64 0, .int .i64 0, .int .i64 0]) 3 24 Try.underlying73 hinf hz0 hz1 hz2 rfl (by omega) u7 pre.length (claimCells pre) (by rfl) ((hS.alloc _).drew) ⟨wr.heap.size, 0, none⟩ 1 1 [.int .i64 (k : Int), .int .i64 x, .int .i64 z] (by rfl) (by rfl) (World.news_of_block (cs := #[.int .i64 (k : Int), .int .i64 x, .int .i64 z]) (t := 76) (fr := (0, 0)) (heap_alloc_new wr _)) (by simp [Value.oneCell']) (by omega) (by unfold maxLen; omega) (by omega) (by simp; omega) (wr.heap.size + 1) (by simp) ?_; intro gg cap w4 hown4 hgrow hat hlt4; have p4 : Below wb.heap.size wb w4 := (hB.alloc hszr _).drew.grown hgrow (by simp; omega) (fun q hq => by have := (hS.lt q hq).1; omega)))
      rename _ ∧ _ => hHeld
      obtain ⟨_, _, p4⟩ := hHeld
      clear HSt
      go_wp2
      go_roundw
      case rel => exact ⟨k + 1, by omega, by go_num, by rw [HN.out, HE.out]; unfold OwnC; rw [claimCells_snoc]; simpa using hown4, p4⟩
      case measure => simp [intOf]; omega

    · obtain rfl : k = os.length := by omega
      have hpl : (nextTo 1 os ms os.length).length ≤ os.length := by rw [nextTo_len]; exact Nat.le_refl _
      generalize nextTo 1 os ms os.length = l at *
      obtain ⟨A4, c4, rfl⟩ := hS.sl
      go_wp2
      go_ret
      exact ⟨HB0.out.trans (hB.mono (by omega)), A4, c4, rfl, hS.at_ (by omega)⟩

set_option maxRecDepth 100000 in
set_option maxHeartbeats 4000000 in
theorem next_2 (oa ma : Option Addr) (os ms : List Int) (oc mc : Nat) (w : World) (ho : Ints w oa os) (hm : Ints w ma ms) (go : okO os = true) (gm : okMs os ms = true) :
  Calls Try.prog 64 #[.agg #[.func (.func 86) #[] #[], .int .i64 1], .slice oa os.length oc, .slice ma ms.length mc] w (ClaimsR w (nextTo 2 os ms os.length)) := by
  obtain ⟨i0, hinf, hz0, hz1, hz2⟩ := info_parts claim_info
  obtain ⟨g1, g2, g3⟩ := okO_len go
  obtain ⟨g4, g5⟩ := okMs_len gm
  have g4a : ms.length ≤ os.length := by omega
  have g4b : os.length ≤ ms.length := by omega
  clear g4
  have hB0 := (Below.refl w.heap.size w).alloc (Nat.le_refl _) (.cells #[.func (.func 86) #[] #[], .int .i64 1] 70)
  have HO := hid (ho.below hB0)
  have HM := hid (hm.below hB0)
  have HBd := hid (fun k hk => allIn_at g5 k hk)
  have HB0 := hid hB0
  clear ho hm g3 g5 go gm hB0
  go_enter Try.func64, Try.ntmps64
  go_wp2
  generalize hwb : w.alloc (.cells #[.func (.func 86) #[] #[], .int .i64 1] 70) = wb at *
  have hf : wb.cell? ⟨w.heap.size, 0, none⟩ = some (.func (.func 86) #[] #[]) := by rw [← hwb]; clear hwb; go_simp
  have hsb : w.heap.size < wb.heap.size := cell_lt hf
  clear hwb
  have HF := hid hf
  clear hf
  go_loopw [7, 12] (fun v i wr => ∃ k : Nat, k ≤ os.length ∧ i = .int .i64 k ∧ OwnC wr wb.heap.size v (nextTo 2 os ms k) ∧ Below wb.heap.size wb wr) (fun _ i _ => os.length - (intOf i).toNat)
  case atStart => exact ⟨0, Nat.zero_le _, rfl, ⟨rfl, .inl ⟨rfl, rfl⟩⟩, Below.refl _ _⟩
  case round =>
    obtain ⟨k, hk, rfl, hS, hB⟩ := hrel
    have hszr := hB.size
    by_cases hlt : k < os.length
    · rcases HO.out.at_ with e | ⟨b, off, rfl, hc⟩
      · rw [e] at hlt; simp at hlt
      rcases HM.out.at_ with e | ⟨bm, om, rfl, hcm⟩
      · rw [e, List.length_nil] at g4b; omega
      have d0 := hc k hlt
      have d1 := hcm k (by omega)
      have hy := HBd.out k (by omega)
      have HN := hid (show nextTo 2 os ms (k + 1) = nextTo 2 os ms k ++ [nextC 2 os ms k] from rfl)
      have HE := hid (show nextC 2 os ms k = ((k : Int), os[k]?.getD 0, stepV 2 (ms[k]?.getD 0)) from rfl)
      have hpl : (nextTo 2 os ms k).length ≤ k := by rw [nextTo_len]; exact Nat.le_refl _
      clear hc hcm
      unfold at0 at HN
      generalize os[k]?.getD 0 = x at *
      generalize ms[k]?.getD 0 = y at *
      generalize nextTo 2 os ms k = pre at *
      have hk0 : (0 : Int) ≤ (k : Int) := Int.natCast_nonneg _
      have hk1 : (k : Int) < (ms.length : Int) := by omega
      have hk2 : (k : Int) < (os.length : Int) := by omega
      have c0 : wr.cell? ⟨b, off + k, none⟩ = some (.int .i64 x) := by rw [hB.cell (cell_lt d0)]; exact d0
      have c1 : wr.cell? ⟨bm, om + k, none⟩ = some (.int .i64 y) := by rw [hB.cell (cell_lt d1)]; exact d1
      have HKp := hid (fun (w' : World) (hb : Below wb.heap.size wb w') => (show w'.cell? ⟨w.heap.size, 0, none⟩ = some (.func (.func 86) #[] #[]) ∧ w'.cell? ⟨bm, om + k, none⟩ = some (.int .i64 y) ∧ Below wb.heap.size wb w' from ⟨by rw [hb.cell (cell_lt HF.out)]; exact HF.out, by rw [hb.cell (cell_lt d1)]; exact d1, hb⟩))
      clear d0 d1

      have HSt := hid (fun w => step2_any y w)
      generalize stepV 2 y = z at *
      unfold OwnC at hS
      go_wp2
      go_region_held3 (fun w' => w'.cell? ⟨w.heap.size, 0, none⟩ = some (.func (.func 86) #[] #[]) ∧ w'.cell? ⟨bm, om + k, none⟩ = some (.int .i64 y) ∧ Below wb.heap.size wb w')
        (first | exact HKp.out _ hB.drew | exact HKp.out _ hB | assumption | exact HKp.out _ (Below.drew (Below.alloc hB hszr _)) | exact HKp.out _ (Below.alloc hB.drew hszr _) | exact HKp.out _ (Below.alloc hB hszr _) | exact HKp.out _ p4)
        (first
          | (go_at_call 86; refine (HSt.out _).mono ?_; rintro en w5 ⟨rfl, rfl⟩)
          | (refine step_append_lies _ (by rfl) _ _ 73 (by rfl) wb.heap.size 76 i0 (.agg #[.int .i64 0, .int .i64 0, .int .i64 0]) 3 24 Try.underlying73 hinf hz0 hz1 hz2 rfl (by omega) u7 pre.length (claimCells pre) (by rfl) ((hS.alloc _).drew) ⟨wr.heap.size, 0, none⟩ 1 1 [.int .i64 (k : Int), .int .i64 x, .int .i64 z] (by rfl) (by rfl) (World.news_of_block (cs := #[.int .i64 (k : Int), .int .i64 x, .int .i64 z]) (t := 76) (fr := (0, 0)) (heap_alloc_new wr _)) (by simp [Value.oneCell']) (by omega) (by unfold maxLen; omega) (by omega) (by simp; omega) (wr.heap.size + 1) (by simp) ?_; intro gg cap w4 hown4 hgrow hat hlt4; have p4 : Below wb.heap.size wb w4 := (hB.alloc hszr _).drew.grown hgrow (by simp; omega) (fun q hq => by have := (hS.lt q hq).1; omega)))
      rename _ ∧ _ => hHeld
      obtain ⟨_, _, p4⟩ := hHeld
      clear HSt
      go_wp2
      go_roundw
      case rel => exact ⟨k + 1, by omega, by go_num, by rw [HN.out, HE.out]; unfold OwnC; rw [claimCells_snoc]; simpa using hown4, p4⟩
      case measure => simp [intOf]; omega

    · obtain rfl : k = os.length := by omega
      have hpl : (nextTo 2 os ms os.length).length ≤ os.length := by rw [nextTo_len]; exact Nat.le_refl _
      generalize nextTo 2 os ms os.length = l at *
      obtain ⟨A4, c4, rfl⟩ := hS.sl
      go_wp2
      go_ret
      exact ⟨HB0.out.trans (hB.mono (by omega)), A4, c4, rfl, hS.at_ (by omega)⟩

set_option maxRecDepth 100000 in
set_option maxHeartbeats 4000000 in
theorem held_0 (oa ma : Option Addr) (os ms : List Int) (oc mc : Nat) (w : World) (ho : Ints w oa os) (hm : Ints w ma ms) (go : okO os = true) (gm : okMs os ms = true) :
  Calls Try.prog 54 #[.agg #[.func (.func 84) #[] #[], .int .i64 1], .slice oa os.length oc, .slice ma ms.length mc] w (ClaimsR w (heldTo 0 os ms os.length)) := by
  obtain ⟨i0, hinf, hz0, hz1, hz2⟩ := info_parts claim_info
  obtain ⟨g1, g2, g3⟩ := okO_len go
  obtain ⟨g4, g5⟩ := okMs_len gm
  have g4a : ms.length ≤ os.length := by omega
  have g4b : os.length ≤ ms.length := by omega
  clear g4
  have hB0 := (Below.refl w.heap.size w).alloc (Nat.le_refl _) (.cells #[.func (.func 84) #[] #[], .int .i64 1] 70)
  have HO := hid (ho.below hB0)
  have HM := hid (hm.below hB0)
  have HBd := hid (fun k hk => allIn_at g5 k hk)
  have HB0 := hid hB0
  clear ho hm g3 g5 go gm hB0
  go_enter Try.func54, Try.ntmps54
  go_wp2
  generalize hwb : w.alloc (.cells #[.func (.func 84) #[] #[], .int .i64 1] 70) = wb at *
  have hf : wb.cell? ⟨w.heap.size, 0, none⟩ = some (.func (.func 84) #[] #[]) := by rw [← hwb]; clear hwb; go_simp
  have hsb : w.heap.size < wb.heap.size := cell_lt hf
  clear hwb
  have HF := hid hf
  clear hf
  go_loopw [7, 12] (fun v i wr => ∃ k : Nat, k ≤ os.length ∧ i = .int .i64 k ∧ OwnC wr wb.heap.size v (heldTo 0 os ms k) ∧ Below wb.heap.size wb wr) (fun _ i _ => os.length - (intOf i).toNat)
  case atStart => exact ⟨0, Nat.zero_le _, rfl, ⟨rfl, .inl ⟨rfl, rfl⟩⟩, Below.refl _ _⟩
  case round =>
    obtain ⟨k, hk, rfl, hS, hB⟩ := hrel
    have hszr := hB.size
    by_cases hlt : k < os.length
    · rcases HO.out.at_ with e | ⟨b, off, rfl, hc⟩
      · rw [e] at hlt; simp at hlt
      rcases HM.out.at_ with e | ⟨bm, om, rfl, hcm⟩
      · rw [e, List.length_nil] at g4b; omega
      have d0 := hc k hlt
      have d1 := hcm k (by omega)
      have hy := HBd.out k (by omega)
      have HN := hid (show heldTo 0 os ms (k + 1) = if 0 < at0 ms k then heldTo 0 os ms k ++ [heldC 0 os ms k] else heldTo 0 os ms k from rfl)
      have HE := hid (show heldC 0 os ms k = ((k : Int), os[k]?.getD 0, stepV 0 (ms[k]?.getD 0 - 1)) from rfl)
      have hpl : (heldTo 0 os ms k).length ≤ k := heldTo_len _ _ _ _
      clear hc hcm
      unfold at0 at HN
      generalize os[k]?.getD 0 = x at *
      generalize ms[k]?.getD 0 = y at *
      generalize heldTo 0 os ms k = pre at *
      have hk0 : (0 : Int) ≤ (k : Int) := Int.natCast_nonneg _
      have hk1 : (k : Int) < (ms.length : Int) := by omega
      have hk2 : (k : Int) < (os.length : Int) := by omega
      have c0 : wr.cell? ⟨b, off + k, none⟩ = some (.int .i64 x) := by rw [hB.cell (cell_lt d0)]; exact d0
      have c1 : wr.cell? ⟨bm, om + k, none⟩ = some (.int .i64 y) := by rw [hB.cell (cell_lt d1)]; exact d1
      have HKp := hid (fun (w' : World) (hb : Below wb.heap.size wb w') => (show w'.cell? ⟨w.heap.size, 0, none⟩ = some (.func (.func 84) #[] #[]) ∧ w'.cell? ⟨bm, om + k, none⟩ = some (.int .i64 y) ∧ Below wb.heap.size wb w' from ⟨by rw [hb.cell (cell_lt HF.out)]; exact HF.out, by rw [hb.cell (cell_lt d1)]; exact d1, hb⟩))
      clear d0 d1
      by_cases hp : 0 < y
      · have HP := hid hp
        have HSt := hid (fun w => step0_any (y - 1) w (by omega) (by omega))
        generalize stepV 0 (y - 1) = z at *
        unfold OwnC at hS
        have hwr : IntKind.i64.wrap (y - 1) = y - 1 := IntWalk.i64_in _ (by omega)
        go_wp2
        go_region_held3 (fun w' => w'.cell? ⟨w.heap.size, 0, none⟩ = some (.func (.func 84) #[] #[]) ∧ w'.cell? ⟨bm, om + k, none⟩ = some (.int .i64 y) ∧ Below wb.heap.size wb w')
          (first | exact HKp.out _ hB.drew | exact HKp.out _ hB | assumption | exact HKp.out _ (Below.drew (Below.alloc hB hszr _)) | exact HKp.out _ (Below.alloc hB.drew hszr _) | exact HKp.out _ (Below.alloc hB hszr _) | exact HKp.out _ p4)
          (first
            | (go_at_call 84; refine (HSt.out _).mono ?_; rintro en w5 ⟨rfl, rfl⟩)
            | (refine step_append_lies _ (by rfl) _ _ 73 (by rfl) wb.heap.size 76 i0 (.agg #[.int .i64 0, .int .i64 0, .int .i64 0]) 3 24 Try.underlying73 hinf hz0 hz1 hz2 rfl (by omega) u7 pre.length (claimCells pre) (by rfl) ((hS.alloc _).drew) ⟨wr.heap.size, 0, none⟩ 1 1 [.int .i64 (k : Int), .int .i64 x, .int .i64 z] (by rfl) (by rfl) (World.news_of_block (cs := #[.int .i64 (k : Int), .int .i64 x, .int .i64 z]) (t := 76) (fr := (0, 0)) (heap_alloc_new wr _)) (by simp [Value.oneCell']) (by omega) (by unfold maxLen; omega) (by omega) (by simp; omega) (wr.heap.size + 1) (by simp) ?_; intro gg cap w4 hown4 hgrow hat hlt4; have p4 : Below wb.heap.size wb w4 := (hB.alloc hszr _).drew.grown hgrow (by simp; omega) (fun q hq => by have := (hS.lt q hq).1; omega)))
        rename _ ∧ _ => hHeld
        obtain ⟨_, _, p4⟩ := hHeld
        clear HSt
        go_wp2
        go_roundw
        case rel => exact ⟨k + 1, by omega, by go_num, by rw [HN.out, if_pos HP.out, HE.out]; unfold OwnC; rw [claimCells_snoc]; simpa using hown4, p4⟩
        case measure => simp [intOf]; omega
      · have HP := hid hp
        have hp' : y ≤ 0 := by omega
        clear hp
        go_wp2
        go_roundw
        case rel => exact ⟨k + 1, by omega, by go_num, by rw [HN.out, if_neg HP.out]; exact hS, hB⟩
        case measure => simp [intOf]; omega
    · obtain rfl : k = os.length := by omega
      have hpl : (heldTo 0 os ms os.length).length ≤ os.length := heldTo_len _ _ _ _
      generalize heldTo 0 os ms os.length = l at *
      obtain ⟨A4, c4, rfl⟩ := hS.sl
      go_wp2
      go_ret
      exact ⟨HB0.out.trans (hB.mono (by omega)), A4, c4, rfl, hS.at_ (by omega)⟩

set_option maxRecDepth 100000 in
set_option maxHeartbeats 4000000 in
theorem held_1 (oa ma : Option Addr) (os ms : List Int) (oc mc : Nat) (w : World) (ho : Ints w oa os) (hm : Ints w ma ms) (go : okO os = true) (gm : okMs os ms = true) :
  Calls Try.prog 54 #[.agg #[.func (.func 85) #[] #[], .int .i64 2], .slice oa os.length oc, .slice ma ms.length mc] w (ClaimsR w (heldTo 1 os ms os.length)) := by
  obtain ⟨i0, hinf, hz0, hz1, hz2⟩ := info_parts claim_info
  obtain ⟨g1, g2, g3⟩ := okO_len go
  obtain ⟨g4, g5⟩ := okMs_len gm
  have g4a : ms.length ≤ os.length := by omega
  have g4b : os.length ≤ ms.length := by omega
  clear g4
  have hB0 := (Below.refl w.heap.size w).alloc (Nat.le_refl _) (.cells #[.func (.func 85) #[] #[], .int .i64 2] 70)
  have HO := hid (ho.below hB0)
  have HM := hid (hm.below hB0)
  have HBd := hid (fun k hk => allIn_at g5 k hk)
  have HB0 := hid hB0
  clear ho hm g3 g5 go gm hB0
  go_enter Try.func54, Try.ntmps54
  go_wp2
  generalize hwb : w.alloc (.cells #[.func (.func 85) #[] #[], .int .i64 2] 70) = wb at *
  have hf : wb.cell? ⟨w.heap.size, 0, none⟩ = some (.func (.func 85) #[] #[]) := by rw [← hwb]; clear hwb; go_simp
  have hsb : w.heap.size < wb.heap.size := cell_lt hf
  clear hwb
  have HF := hid hf
  clear hf
  go_loopw [7, 12] (fun v i wr => ∃ k : Nat, k ≤ os.length ∧ i = .int .i64 k ∧ OwnC wr wb.heap.size v (heldTo 1 os ms k) ∧ Below wb.heap.size wb wr) (fun _ i _ => os.length - (intOf i).toNat)
  case atStart => exact ⟨0, Nat.zero_le _, rfl, ⟨rfl, .inl ⟨rfl, rfl⟩⟩, Below.refl _ _⟩
  case round =>
    obtain ⟨k, hk, rfl, hS, hB⟩ := hrel
    have hszr := hB.size
    by_cases hlt : k < os.length
    · rcases HO.out.at_ with e | ⟨b, off, rfl, hc⟩
      · rw [e] at hlt; simp at hlt
      rcases HM.out.at_ with e | ⟨bm, om, rfl, hcm⟩
      · rw [e, List.length_nil] at g4b; omega
      have d0 := hc k hlt
      have d1 := hcm k (by omega)
      have hy := HBd.out k (by omega)
      have HN := hid (show heldTo 1 os ms (k + 1) = if 0 < at0 ms k then heldTo 1 os ms k ++ [heldC 1 os ms k] else heldTo 1 os ms k from rfl)
      have HE := hid (show heldC 1 os ms k = ((k : Int), os[k]?.getD 0, stepV 1 (ms[k]?.getD 0 - 1)) from rfl)
      have hpl : (heldTo 1 os ms k).length ≤ k := heldTo_len _ _ _ _
      clear hc hcm
      unfold at0 at HN
      generalize os[k]?.getD 0 = x at *
      generalize ms[k]?.getD 0 = y at *
      generalize heldTo 1 os ms k = pre at *
      have hk0 : (0 : Int) ≤ (k : Int) := Int.natCast_nonneg _
      have hk1 : (k : Int) < (ms.length : Int) := by omega
      have hk2 : (k : Int) < (os.length : Int) := by omega
      have c0 : wr.cell? ⟨b, off + k, none⟩ = some (.int .i64 x) := by rw [hB.cell (cell_lt d0)]; exact d0
      have c1 : wr.cell? ⟨bm, om + k, none⟩ = some (.int .i64 y) := by rw [hB.cell (cell_lt d1)]; exact d1
      have HKp := hid (fun (w' : World) (hb : Below wb.heap.size wb w') => (show w'.cell? ⟨w.heap.size, 0, none⟩ = some (.func (.func 85) #[] #[]) ∧ w'.cell? ⟨bm, om + k, none⟩ = some (.int .i64 y) ∧ Below wb.heap.size wb w' from ⟨by rw [hb.cell (cell_lt HF.out)]; exact HF.out, by rw [hb.cell (cell_lt d1)]; exact d1, hb⟩))
      clear d0 d1
      by_cases hp : 0 < y
      · have HP := hid hp
        have HSt := hid (fun w => step1_any (y - 1) w (by omega) (by omega))
        generalize stepV 1 (y - 1) = z at *
        unfold OwnC at hS
        have hwr : IntKind.i64.wrap (y - 1) = y - 1 := IntWalk.i64_in _ (by omega)
        go_wp2
        go_region_held3 (fun w' => w'.cell? ⟨w.heap.size, 0, none⟩ = some (.func (.func 85) #[] #[]) ∧ w'.cell? ⟨bm, om + k, none⟩ = some (.int .i64 y) ∧ Below wb.heap.size wb w')
          (first | exact HKp.out _ hB.drew | exact HKp.out _ hB | assumption | exact HKp.out _ (Below.drew (Below.alloc hB hszr _)) | exact HKp.out _ (Below.alloc hB.drew hszr _) | exact HKp.out _ (Below.alloc hB hszr _) | exact HKp.out _ p4)
          (first
            | (go_at_call 85; refine (HSt.out _).mono ?_; rintro en w5 ⟨rfl, rfl⟩)
            | (refine step_append_lies _ (by rfl) _ _ 73 (by rfl) wb.heap.size 76 i0 (.agg #[.int .i64 0, .int .i64 0, .int .i64 0]) 3 24 Try.underlying73 hinf hz0 hz1 hz2 rfl (by omega) u7 pre.length (claimCells pre) (by rfl) ((hS.alloc _).drew) ⟨wr.heap.size, 0, none⟩ 1 1 [.int .i64 (k : Int), .int .i64 x, .int .i64 z] (by rfl) (by rfl) (World.news_of_block (cs := #[.int .i64 (k : Int), .int .i64 x, .int .i64 z]) (t := 76) (fr := (0, 0)) (heap_alloc_new wr _)) (by simp [Value.oneCell']) (by omega) (by unfold maxLen; omega) (by omega) (by simp; omega) (wr.heap.size + 1) (by simp) ?_; intro gg cap w4 hown4 hgrow hat hlt4; have p4 : Below wb.heap.size wb w4 := (hB.alloc hszr _).drew.grown hgrow (by simp; omega) (fun q hq => by have := (hS.lt q hq).1; omega)))
        rename _ ∧ _ => hHeld
        obtain ⟨_, _, p4⟩ := hHeld
        clear HSt
        go_wp2
        go_roundw
        case rel => exact ⟨k + 1, by omega, by go_num, by rw [HN.out, if_pos HP.out, HE.out]; unfold OwnC; rw [claimCells_snoc]; simpa using hown4, p4⟩
        case measure => simp [intOf]; omega
      · have HP := hid hp
        have hp' : y ≤ 0 := by omega
        clear hp
        go_wp2
        go_roundw
        case rel => exact ⟨k + 1, by omega, by go_num, by rw [HN.out, if_neg HP.out]; exact hS, hB⟩
        case measure => simp [intOf]; omega
    · obtain rfl : k = os.length := by omega
      have hpl : (heldTo 1 os ms os.length).length ≤ os.length := heldTo_len _ _ _ _
      generalize heldTo 1 os ms os.length = l at *
      obtain ⟨A4, c4, rfl⟩ := hS.sl
      go_wp2
      go_ret
      exact ⟨HB0.out.trans (hB.mono (by omega)), A4, c4, rfl, hS.at_ (by omega)⟩

set_option maxRecDepth 100000 in
set_option maxHeartbeats 4000000 in
theorem held_2 (oa ma : Option Addr) (os ms : List Int) (oc mc : Nat) (w : World) (ho : Ints w oa os) (hm : Ints w ma ms) (go : okO os = true) (gm : okMs os ms = true) :
  Calls Try.prog 54 #[.agg #[.func (.func 86) #[] #[], .int .i64 1], .slice oa os.length oc, .slice ma ms.length mc] w (ClaimsR w (heldTo 2 os ms os.length)) := by
  obtain ⟨i0, hinf, hz0, hz1, hz2⟩ := info_parts claim_info
  obtain ⟨g1, g2, g3⟩ := okO_len go
  obtain ⟨g4, g5⟩ := okMs_len gm
  have g4a : ms.length ≤ os.length := by omega
  have g4b : os.length ≤ ms.length := by omega
  clear g4
  have hB0 := (Below.refl w.heap.size w).alloc (Nat.le_refl _) (.cells #[.func (.func 86) #[] #[], .int .i64 1] 70)
  have HO := hid (ho.below hB0)
  have HM := hid (hm.below hB0)
  have HBd := hid (fun k hk => allIn_at g5 k hk)
  have HB0 := hid hB0
  clear ho hm g3 g5 go gm hB0
  go_enter Try.func54, Try.ntmps54
  go_wp2
  generalize hwb : w.alloc (.cells #[.func (.func 86) #[] #[], .int .i64 1] 70) = wb at *
  have hf : wb.cell? ⟨w.heap.size, 0, none⟩ = some (.func (.func 86) #[] #[]) := by rw [← hwb]; clear hwb; go_simp
  have hsb : w.heap.size < wb.heap.size := cell_lt hf
  clear hwb
  have HF := hid hf
  clear hf
  go_loopw [7, 12] (fun v i wr => ∃ k : Nat, k ≤ os.length ∧ i = .int .i64 k ∧ OwnC wr wb.heap.size v (heldTo 2 os ms k) ∧ Below wb.heap.size wb wr) (fun _ i _ => os.length - (intOf i).toNat)
  case atStart => exact ⟨0, Nat.zero_le _, rfl, ⟨rfl, .inl ⟨rfl, rfl⟩⟩, Below.refl _ _⟩
  case round =>
    obtain ⟨k, hk, rfl, hS, hB⟩ := hrel
    have hszr := hB.size
    by_cases hlt : k < os.length
    · rcases HO.out.at_ with e | ⟨b, off, rfl, hc⟩
      · rw [e] at hlt; simp at hlt
      rcases HM.out.at_ with e | ⟨bm, om, rfl, hcm⟩
      · rw [e, List.length_nil] at g4b; omega
      have d0 := hc k hlt
      have d1 := hcm k (by omega)
      have hy := HBd.out k (by omega)
      have HN := hid (show heldTo 2 os ms (k + 1) = if 0 < at0 ms k then heldTo 2 os ms k ++ [heldC 2 os ms k] else heldTo 2 os ms k from rfl)
      have HE := hid (show heldC 2 os ms k = ((k : Int), os[k]?.getD 0, stepV 2 (ms[k]?.getD 0 - 1)) from rfl)
      have hpl : (heldTo 2 os ms k).length ≤ k := heldTo_len _ _ _ _
      clear hc hcm
      unfold at0 at HN
      generalize os[k]?.getD 0 = x at *
      generalize ms[k]?.getD 0 = y at *
      generalize heldTo 2 os ms k = pre at *
      have hk0 : (0 : Int) ≤ (k : Int) := Int.natCast_nonneg _
      have hk1 : (k : Int) < (ms.length : Int) := by omega
      have hk2 : (k : Int) < (os.length : Int) := by omega
      have c0 : wr.cell? ⟨b, off + k, none⟩ = some (.int .i64 x) := by rw [hB.cell (cell_lt d0)]; exact d0
      have c1 : wr.cell? ⟨bm, om + k, none⟩ = some (.int .i64 y) := by rw [hB.cell (cell_lt d1)]; exact d1
      have HKp := hid (fun (w' : World) (hb : Below wb.heap.size wb w') => (show w'.cell? ⟨w.heap.size, 0, none⟩ = some (.func (.func 86) #[] #[]) ∧ w'.cell? ⟨bm, om + k, none⟩ = some (.int .i64 y) ∧ Below wb.heap.size wb w' from ⟨by rw [hb.cell (cell_lt HF.out)]; exact HF.out, by rw [hb.cell (cell_lt d1)]; exact d1, hb⟩))
      clear d0 d1
      by_cases hp : 0 < y
      · have HP := hid hp
        have HSt := hid (fun w => step2_any (y - 1) w)
        generalize stepV 2 (y - 1) = z at *
        unfold OwnC at hS
        have hwr : IntKind.i64.wrap (y - 1) = y - 1 := IntWalk.i64_in _ (by omega)
        go_wp2
        go_region_held3 (fun w' => w'.cell? ⟨w.heap.size, 0, none⟩ = some (.func (.func 86) #[] #[]) ∧ w'.cell? ⟨bm, om + k, none⟩ = some (.int .i64 y) ∧ Below wb.heap.size wb w')
          (first | exact HKp.out _ hB.drew | exact HKp.out _ hB | assumption | exact HKp.out _ (Below.drew (Below.alloc hB hszr _)) | exact HKp.out _ (Below.alloc hB.drew hszr _) | exact HKp.out _ (Below.alloc hB hszr _) | exact HKp.out _ p4)
          (first
            | (go_at_call 86; refine (HSt.out _).mono ?_; rintro en w5 ⟨rfl, rfl⟩)
            | (refine step_append_lies _ (by rfl) _ _ 73 (by rfl) wb.heap.size 76 i0 (.agg #[.int .i64 0, .int .i64 0, .int .i64 0]) 3 24 Try.underlying73 hinf hz0 hz1 hz2 rfl (by omega) u7 pre.length (claimCells pre) (by rfl) ((hS.alloc _).drew) ⟨wr.heap.size, 0, none⟩ 1 1 [.int .i64 (k : Int), .int .i64 x, .int .i64 z] (by rfl) (by rfl) (World.news_of_block (cs := #[.int .i64 (k : Int), .int .i64 x, .int .i64 z]) (t := 76) (fr := (0, 0)) (heap_alloc_new wr _)) (by simp [Value.oneCell']) (by omega) (by unfold maxLen; omega) (by omega) (by simp; omega) (wr.heap.size + 1) (by simp) ?_; intro gg cap w4 hown4 hgrow hat hlt4; have p4 : Below wb.heap.size wb w4 := (hB.alloc hszr _).drew.grown hgrow (by simp; omega) (fun q hq => by have := (hS.lt q hq).1; omega)))
        rename _ ∧ _ => hHeld
        obtain ⟨_, _, p4⟩ := hHeld
        clear HSt
        go_wp2
        go_roundw
        case rel => exact ⟨k + 1, by omega, by go_num, by rw [HN.out, if_pos HP.out, HE.out]; unfold OwnC; rw [claimCells_snoc]; simpa using hown4, p4⟩
        case measure => simp [intOf]; omega
      · have HP := hid hp
        have hp' : y ≤ 0 := by omega
        clear hp
        go_wp2
        go_roundw
        case rel => exact ⟨k + 1, by omega, by go_num, by rw [HN.out, if_neg HP.out]; exact hS, hB⟩
        case measure => simp [intOf]; omega
    · obtain rfl : k = os.length := by omega
      have hpl : (heldTo 2 os ms os.length).length ≤ os.length := heldTo_len _ _ _ _
      generalize heldTo 2 os ms os.length = l at *
      obtain ⟨A4, c4, rfl⟩ := hS.sl
      go_wp2
      go_ret
      exact ⟨HB0.out.trans (hB.mono (by omega)), A4, c4, rfl, hS.at_ (by omega)⟩

theorem next_any (kind : Int) (oa ma : Option Addr) (os ms : List Int) (oc mc : Nat) (w : World) (ho : Ints w oa os) (hm : Ints w ma ms) (go : okO os = true) (gm : okMs os ms = true) (gk : okK kind = true) :
  Calls Try.prog 64 #[stepsV kind, .slice oa os.length oc, .slice ma ms.length mc] w (ClaimsR w (nextTo kind os ms os.length)) := by
  rcases okK_cases gk with rfl | rfl | rfl
  · exact next_0 oa ma os ms oc mc w ho hm go gm
  · exact next_1 oa ma os ms oc mc w ho hm go gm
  · exact next_2 oa ma os ms oc mc w ho hm go gm

theorem held_any (kind : Int) (oa ma : Option Addr) (os ms : List Int) (oc mc : Nat) (w : World) (ho : Ints w oa os) (hm : Ints w ma ms) (go : okO os = true) (gm : okMs os ms = true) (gk : okK kind = true) :
  Calls Try.prog 54 #[stepsV kind, .slice oa os.length oc, .slice ma ms.length mc] w (ClaimsR w (heldTo kind os ms os.length)) := by
  rcases okK_cases gk with rfl | rfl | rfl
  · exact held_0 oa ma os ms oc mc w ho hm go gm
  · exact held_1 oa ma os ms oc mc w ho hm go gm
  · exact held_2 oa ma os ms oc mc w ho hm go gm

end Go.Proofs.Ytnjaacmcdkiilaa
