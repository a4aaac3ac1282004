/- What the law OrderAdds calls: copied, spoil, and Add of the document. -/
import Derived.Test.YtkepjoociidkcaaOrAdd
set_option linter.unusedVariables false
namespace Go.Proofs.Ytkepjoociidkcaa
open Go.RowKit

theorem step_append_self {P : Program} {ops : Array Oper} {o : Oper} {a : Act} {w : World} {K : Act → World → Prop} {Q : Exit → Act → World → Prop} {E : Prop}
    (hg : o.guard = none) (s x : Operand) (t : TypeId) (hop : o.op = Op.call { callee := Callee.builtin Builtin.append, args := #[s, x], argTypes := #[t, t] })
    (base : Nat) (e : TypeId) (i : TypeInfo) (z : Value) (size bytes : Nat) (h1 : P.underlying t = some (.slice e)) (h2 : P.info? e = some i) (h3 : i.zero = some z) (h4 : i.size = size) (h5 : i.bytes = bytes) (h6 : z.cells.size = size) (h7 : 0 < size)
    (v : Value) (n : Nat) (xs : List Value) (hs : a.eval s = v) (hown : w.ownsRow base e size v n xs)
    (A : Option Addr) (m c : Nat) (news : List Value) (hx : a.eval x = .slice A m c) (hn : news.length = m * size)
    (hc : m = 0 ∨ ∃ ad, A = some ad ∧ ∀ j u, news[j]? = some u → w.cell? (ad.add j) = some u) (h1c : ∀ u ∈ news, u.oneCell' = true)
    (b1 : n + m ≤ maxLen) (b2 : (n + m) * bytes ≤ 140737488355328) (hbase : base ≤ w.heap.size)
    (hK : ∀ v' w', w'.ownsRow base e size v' (n + m) (xs ++ news) → w.grownBy w' v.ownBlock → K (a.put o.dst v') w') :
    if Region.wanted o (yielded ops a.tmps) = true then Oper.wp P o a w K Q else E := by
  have hw : Region.wanted o (yielded ops a.tmps) = true := by simp [Region.wanted, hg]
  rw [if_pos hw]
  cases A with
  | some ad =>
    have hcell : ∀ j u, news[j]? = some u → w.cell? (ad.add j) = some u := by
      rcases hc with rfl | ⟨ad', e', hc⟩
      · intro j u hu
        have : news = [] := List.eq_nil_of_length_eq_zero (by omega)
        subst this
        simp at hu
      · cases e'; exact hc
    obtain ⟨v', w', hrun, r1, r2, _⟩ := run_append_own (P := P) w base t o.type e i z size bytes h1 h2 h3 h4 h5 h6 h7 v n xs hown ad m c news hn hcell h1c b1 b2 hbase
    unfold Oper.wp
    simp [execOp, hop, resolve, invoke, builtin, hs, hx, hrun, Result.andThen]
    exact hK v' w' r1 r2
  | none =>
    have hm : m = 0 := by
      rcases hc with h0 | ⟨ad', e', _⟩
      · exact h0
      · cases e'
    subst hm
    obtain rfl : news = [] := List.eq_nil_of_length_eq_zero (by omega)
    have hrun : (Builtin.append_ #[t, t] o.type #[v, .slice none 0 c]).run P w = .ok v w := by
      have h0 := hown.2
      rcases h0 with ⟨rfl, rfl⟩ | ⟨g, cap, cur, rfl, _, _, hnc, _⟩
      · simp [Builtin.append_, Builtin.firstCells, Builtin.lenOf, run_underlying h1, typeInfo, h2, sizeOf]
      · simp [Builtin.append_, Builtin.firstCells, Builtin.lenOf, run_underlying h1, typeInfo, h2, sizeOf, storeCells, hnc]
    unfold Oper.wp
    simp [execOp, hop, resolve, invoke, builtin, hs, hx, hrun, Result.andThen]
    exact hK v w (by simpa using hown) (World.grownBy.refl w _)

theorem FactsAt.src {w : World} {a : Option Addr} {l : List Fct} (h : FactsAt w a l) : l.length = 0 ∨ ∃ ad, a = some ad ∧ ∀ j u, (fcCells l)[j]? = some u → w.cell? (ad.add j) = some u := by
  rcases h.at_ with e | ⟨b, off, e, hc⟩
  · left; rw [e]; rfl
  · exact .inr ⟨_, e, FactsAt.news hc⟩

set_option maxRecDepth 100000 in
set_option maxHeartbeats 2000000 in
theorem copied5_any (a : Option Addr) (l : List Fct) (cap : Nat) (w : World) (hl : FactsAt w a l) (h60 : l.length ≤ 1000) :
  Calls Try.prog 14 #[.slice a l.length cap] w (FsR w l) := by
  obtain ⟨i0, hinf, hz0, hz1, hz2⟩ := info_parts fc_info
  have HL := hid hl
  clear hl
  go_enter Try.func14, Try.ntmps14
  go_wp2_with (at_builtin; (refine wpList_append_src rfl _ _ 22 rfl w.heap.size 24 i0 (.agg #[.int .i64 0, .int .i64 0, .int .i64 0, .int .i64 0, .int .i64 0]) 5 40 Try.underlying22 hinf hz0 hz1 hz2 rfl (by decide) _ 0 [] rfl (World.ownsRow_lit w #[] 0 (Nat.le_refl _) (by decide) rfl) _ _ _ (fcCells l) rfl (fcCells_len l) ((HL.out.below ((Below.refl _ _).alloc (Nat.le_refl _) _)).src) (fcCells_one l) (by unfold maxLen; omega) (by omega) (by simp) ?_))
  intro v' w2 hown hgrow
  have p3 := ((Below.refl w.heap.size w).alloc (Nat.le_refl _) (.cells #[] 24)).grown hgrow (by simp) (fun q hq => by simp [Value.ownBlock] at hq; omega)
  have hO := hid (show OwnF w2 w.heap.size v' l by unfold OwnF; simpa using hown)
  clear hgrow hown
  obtain ⟨A, cc, rfl, hcl⟩ := hO.out.sl
  have hat := hid (hO.out.at_ (by omega))
  go_wp2
  go_ret
  exact ⟨p3, A, cc, rfl, hcl, hat.out⟩

def DoneB (w : World) (base : Nat) (en : Ending) (w' : World) : Prop := Below base w w' ∧ en = .returned (.tuple #[])
set_option maxRecDepth 100000 in
set_option maxHeartbeats 2000000 in
theorem spoil_any (A : Option Addr) (c n base : Nat) (xs : List Value) (w : World) (h : w.ownsRow base 24 5 (.slice A n c) n xs) (hb : base ≤ w.heap.size) (h60 : n ≤ 1000) :
  Calls Try.prog 20 #[.slice A n c] w (DoneB w base) := by
  have HO := hid h
  clear h
  go_enter Try.func20, Try.ntmps20
  go_wp2
  go_loopw [2] (fun i wr => ∃ k : Nat, k ≤ n ∧ i = .int .i64 k ∧ Hid (∃ ys, wr.ownsRow base 24 5 (.slice A n c) n ys) ∧ Below base w wr) (fun i _ => n - (intOf i).toNat)
  case atStart => exact ⟨0, Nat.zero_le _, rfl, ⟨xs, HO.out⟩, Below.refl _ _⟩
  case round =>
    obtain ⟨k, hk, rfl, HR, hB⟩ := hrel
    by_cases hlt : k < n
    · obtain ⟨ys, hrow⟩ := HR.out
      obtain ⟨g, c2, hv2, hg, hlt2⟩ := hrow.form (by omega)
      simp only [Value.slice.injEq] at hv2
      obtain ⟨rfl, _, rfl⟩ := hv2
      have hy : ∃ u, wr.cell? ⟨g, k * 5, none⟩ = some u := by
        rw [hrow.cellAt _ (by omega), List.getElem?_eq_getElem (by have := hrow.1; omega)]; exact ⟨_, rfl⟩
      obtain ⟨u, c0⟩ := hy
      have f0 := hrow.frozenAt (k * 5)
      have HS := hid (hrow.stored (k * 5) (.int .i64 (-1)))
      have HBn := hid (hB.setCell (p := ⟨g, k * 5, none⟩) (by exact hg) (.int .i64 (-1)))
      go_wp2
      go_roundw
      case rel => exact ⟨k + 1, by omega, by go_num, ⟨_, HS.out.1⟩, HBn.out⟩
      case measure => simp [intOf]; omega
    · go_wp2
      exact bodyPost_end (results_none rfl _ _ _) rfl ⟨hB, rfl⟩

set_option maxRecDepth 100000 in
set_option maxHeartbeats 4000000 in
theorem rAdd_any (a : Option Addr) (l : List Fct) (cap : Nat) (x : Fct) (w : World) (hl : FactsAt w a l) :
  Calls Try.prog 16 #[.slice a l.length cap, .agg #[.int .i64 x.a, .int .i64 x.c, .int .i64 x.f, .int .i64 x.t, .int .i64 x.m]] w (FactsR w (addL l x)) := by
  obtain ⟨i0, hinf, hz0, hz1, hz2⟩ := info_parts fc_info
  have hlen := hl.len
  have hB0 := below_new w (.cells #[.int .i64 x.a, .int .i64 x.c, .int .i64 x.f, .int .i64 x.t, .int .i64 x.m] 24)
  have HX := hid (fctAt_new w x 24)
  have HV := hid (rvalidate_any a l cap _ (hl.below hB0))
  have HA := hid (show addL l x = if validE l = 0 then (if validE (l ++ [x]) = 0 then (l ++ [x], 0) else ([], validE (l ++ [x]))) else ([], validE l) from rfl)
  by_cases h0 : validE l = 0
  · have HA := hid ((HA.out).trans (if_pos h0))
    have h60 := (validE_ok h0).1
    rw [h0] at HV
    have HL := hid hl
    have hB0h := hid hB0
    clear h0 hl hB0
    go_enter Try.func16, Try.ntmps16
    go_wp2_with fail
    refine HV.out.mono ?_
    rintro e w1 ⟨q1, rfl⟩
    have p1 := hB0h.out.trans (q1.mono (by simp))
    obtain ⟨c0, c1, c2, c3, c4⟩ := HX.out.below q1
    simp only [Nat.zero_add] at c1 c2 c3 c4
    have HLs := hid (fun W (h : Below w1.heap.size w1 W) => FactsAt.src ((HL.out.below p1).below h))
    have HKp := hid (fun (w' : World) (hb : Below w1.heap.size w1 w') => (show w'.cell? ⟨w.heap.size, 0, none⟩ = some (.int .i64 x.a) ∧ w'.cell? ⟨w.heap.size, 1, none⟩ = some (.int .i64 x.c) ∧ w'.cell? ⟨w.heap.size, 2, none⟩ = some (.int .i64 x.f) ∧ w'.cell? ⟨w.heap.size, 3, none⟩ = some (.int .i64 x.t) ∧ w'.cell? ⟨w.heap.size, 4, none⟩ = some (.int .i64 x.m) ∧ Below w1.heap.size w1 w' from
      ⟨by rw [hb.cell (cell_lt c0)]; exact c0, by rw [hb.cell (cell_lt c1)]; exact c1, by rw [hb.cell (cell_lt c2)]; exact c2, by rw [hb.cell (cell_lt c3)]; exact c3, by rw [hb.cell (cell_lt c4)]; exact c4, hb⟩))
    have hs1 := p1.size
    have HFl := hid (fcCells_len l)
    have HF1 := hid (fcCells_one l)
    have HEmp := hid (own_below (World.ownsRow_lit (base := w1.heap.size) (e := 24) (size := 5) w1 #[] 0 (Nat.le_refl _) (by decide) rfl) (Below.drew (Below.refl _ _)))
    have HEmB := hid (own_below (World.ownsRow_lit (base := w1.heap.size) (e := 24) (size := 5) w1 #[] 0 (Nat.le_refl _) (by decide) rfl) (Below.drew (below_new _ (.cells #[.int .i64 x.a, .int .i64 x.c, .int .i64 x.f, .int .i64 x.t, .int .i64 x.m] 24))))
    have HEmC := hid (show ((w1.alloc (.cells #[.int .i64 x.a, .int .i64 x.c, .int .i64 x.f, .int .i64 x.t, .int .i64 x.m] 24)).alloc (.cells #[] 24)).drew.ownsRow w1.heap.size 24 5 (.slice (some ⟨w1.heap.size + 1, 0, none⟩) 0 0) 0 [] by have h9 := (own_below (World.ownsRow_lit (base := w1.heap.size) (e := 24) (size := 5) (w1.alloc (.cells #[.int .i64 x.a, .int .i64 x.c, .int .i64 x.f, .int .i64 x.t, .int .i64 x.m] 24)) #[] 0 (by simp <;> omega) (by decide) rfl) (Below.drew (Below.refl _ _))); rw [show (w1.alloc (.cells #[.int .i64 x.a, .int .i64 x.c, .int .i64 x.f, .int .i64 x.t, .int .i64 x.m] 24)).heap.size = w1.heap.size + 1 by simp] at h9; exact h9)
    have hr : Below w1.heap.size w1 w1 := Below.refl _ _
    clear c0 c1 c2 c3 c4 q1 HX HV
    go_wp2
    go_region_held3 (fun w' => w'.cell? ⟨w.heap.size, 0, none⟩ = some (.int .i64 x.a) ∧ w'.cell? ⟨w.heap.size, 1, none⟩ = some (.int .i64 x.c) ∧ w'.cell? ⟨w.heap.size, 2, none⟩ = some (.int .i64 x.f) ∧ w'.cell? ⟨w.heap.size, 3, none⟩ = some (.int .i64 x.t) ∧ w'.cell? ⟨w.heap.size, 4, none⟩ = some (.int .i64 x.m) ∧ Below w1.heap.size w1 w')
      ((refine HKp.out _ ?_; repeat (first | exact hr | assumption | apply Below.drew | (refine Below.alloc ?_ (by first | (simp; done) | (simp; omega) | (have := p2.size; simp; omega)) _))))
      (first
        | (refine step_append_self (by rfl) _ _ 22 (by rfl) w1.heap.size 24 i0 (.agg #[.int .i64 0, .int .i64 0, .int .i64 0, .int .i64 0, .int .i64 0]) 5 40 Try.underlying22 hinf hz0 hz1 hz2 rfl (by decide) _ 0 [] (by rfl) HEmp.out a l.length cap (fcCells l) (by rfl) HFl.out (HLs.out _ (Below.drew (below_new _ _))) HF1.out (by unfold maxLen; omega) (by omega) (by simp <;> omega) ?_; intro v2 w2 own2 grow2; have p2 : Below w1.heap.size w1 w2 := (Below.drew (below_new _ _)).grown grow2 (by simp <;> omega) (fun q hq => by simp [Value.ownBlock] at hq; omega); have hO2 : Hid (w2.ownsRow w1.heap.size 24 5 v2 l.length (fcCells l)) := (by unfold Hid; simpa using own2); clear own2 grow2)
        | (refine step_append_self (by rfl) _ _ 22 (by rfl) w1.heap.size 24 i0 (.agg #[.int .i64 0, .int .i64 0, .int .i64 0, .int .i64 0, .int .i64 0]) 5 40 Try.underlying22 hinf hz0 hz1 hz2 rfl (by decide) _ 0 [] (by rfl) HEmB.out a l.length cap (fcCells l) (by rfl) HFl.out (HLs.out _ (Below.drew (Below.alloc (below_new _ _) (by simp <;> omega) _))) HF1.out (by unfold maxLen; omega) (by omega) (by simp <;> omega) ?_; intro v2 w2 own2 grow2; have p2 : Below w1.heap.size w1 w2 := (Below.drew (Below.alloc (below_new _ _) (by simp <;> omega) _)).grown grow2 (by simp <;> omega) (fun q hq => by simp [Value.ownBlock] at hq; omega); have hO2 : Hid (w2.ownsRow w1.heap.size 24 5 v2 l.length (fcCells l)) := (by unfold Hid; simpa using own2); have hX : w2.heap[w1.heap.size + 1]? = some (.cells #[.int .i64 x.a, .int .i64 x.c, .int .i64 x.f, .int .i64 x.t, .int .i64 x.m] 24) := ((grow2.block (w1.heap.size + 1) (by simp) (by simp [Value.ownBlock])).trans (by have h9 := heap_alloc_new (w1.alloc (.cells #[] 24)) (.cells #[.int .i64 x.a, .int .i64 x.c, .int .i64 x.f, .int .i64 x.t, .int .i64 x.m] 24); rw [show (w1.alloc (.cells #[] 24)).heap.size = w1.heap.size + 1 by simp] at h9; exact h9)); clear own2 grow2)
        | (refine step_append_self (by rfl) _ _ 22 (by rfl) w1.heap.size 24 i0 (.agg #[.int .i64 0, .int .i64 0, .int .i64 0, .int .i64 0, .int .i64 0]) 5 40 Try.underlying22 hinf hz0 hz1 hz2 rfl (by decide) _ 0 [] (by rfl) HEmC.out a l.length cap (fcCells l) (by rfl) HFl.out (HLs.out _ (Below.drew (Below.alloc (below_new _ _) (by simp <;> omega) _))) HF1.out (by unfold maxLen; omega) (by omega) (by simp <;> omega) ?_; intro v2 w2 own2 grow2; have p2 : Below w1.heap.size w1 w2 := (Below.drew (Below.alloc (below_new _ _) (by simp <;> omega) _)).grown grow2 (by simp <;> omega) (fun q hq => by simp [Value.ownBlock] at hq; omega); have hO2 : Hid (w2.ownsRow w1.heap.size 24 5 v2 l.length (fcCells l)) := (by unfold Hid; simpa using own2); have hX : w2.heap[w1.heap.size]? = some (.cells #[.int .i64 x.a, .int .i64 x.c, .int .i64 x.f, .int .i64 x.t, .int .i64 x.m] 24) := ((grow2.block w1.heap.size (by simp <;> omega) (by simp [Value.ownBlock])).trans ((heap_alloc_old (w1.alloc (.cells #[.int .i64 x.a, .int .i64 x.c, .int .i64 x.f, .int .i64 x.t, .int .i64 x.m] 24)) (.cells #[] 24) (by simp)).trans (heap_alloc_new w1 (.cells #[.int .i64 x.a, .int .i64 x.c, .int .i64 x.f, .int .i64 x.t, .int .i64 x.m] 24)))); clear own2 grow2)
        | (refine step_append_self (by rfl) _ _ 22 (by rfl) w1.heap.size 24 i0 (.agg #[.int .i64 0, .int .i64 0, .int .i64 0, .int .i64 0, .int .i64 0]) 5 40 Try.underlying22 hinf hz0 hz1 hz2 rfl (by decide) _ l.length (fcCells l) (by rfl) (own_below hO2.out (below_new _ _)) (some ⟨w2.heap.size, 0, none⟩) 1 1 [.int .i64 x.a, .int .i64 x.c, .int .i64 x.f, .int .i64 x.t, .int .i64 x.m] (by rfl) (by rfl) (.inr ⟨_, rfl, World.news_of_block (cs := #[.int .i64 x.a, .int .i64 x.c, .int .i64 x.f, .int .i64 x.t, .int .i64 x.m]) (t := 24) (fr := (0, 0)) (heap_alloc_new w2 _)⟩) (by simp [Value.oneCell']) (by unfold maxLen; omega) (by omega) (by have := p2.size; simp <;> omega) ?_; intro v4 w4 hown4 hgrow; have p4 : Below w1.heap.size w1 w4 := (p2.alloc p2.size _).grown hgrow (by have := p2.size; simp <;> omega) (fun q hq => (hO2.out.lt q hq).1))
        | (refine step_append_self (by rfl) _ _ 22 (by rfl) w1.heap.size 24 i0 (.agg #[.int .i64 0, .int .i64 0, .int .i64 0, .int .i64 0, .int .i64 0]) 5 40 Try.underlying22 hinf hz0 hz1 hz2 rfl (by decide) _ l.length (fcCells l) (by rfl) hO2.out (some ⟨w1.heap.size + 1, 0, none⟩) 1 1 [.int .i64 x.a, .int .i64 x.c, .int .i64 x.f, .int .i64 x.t, .int .i64 x.m] (by rfl) (by rfl) (.inr ⟨_, rfl, World.news_of_block (cs := #[.int .i64 x.a, .int .i64 x.c, .int .i64 x.f, .int .i64 x.t, .int .i64 x.m]) (t := 24) (fr := (0, 0)) (hX)⟩) (by simp [Value.oneCell']) (by unfold maxLen; omega) (by omega) (by have := p2.size; simp <;> omega) ?_; intro v4 w4 hown4 hgrow; have p4 : Below w1.heap.size w1 w4 := p2.grown hgrow (by have := p2.size; simp <;> omega) (fun q hq => (hO2.out.lt q hq).1))
        | (refine step_append_self (by rfl) _ _ 22 (by rfl) w1.heap.size 24 i0 (.agg #[.int .i64 0, .int .i64 0, .int .i64 0, .int .i64 0, .int .i64 0]) 5 40 Try.underlying22 hinf hz0 hz1 hz2 rfl (by decide) _ l.length (fcCells l) (by rfl) hO2.out (some ⟨w1.heap.size, 0, none⟩) 1 1 [.int .i64 x.a, .int .i64 x.c, .int .i64 x.f, .int .i64 x.t, .int .i64 x.m] (by rfl) (by rfl) (.inr ⟨_, rfl, World.news_of_block (cs := #[.int .i64 x.a, .int .i64 x.c, .int .i64 x.f, .int .i64 x.t, .int .i64 x.m]) (t := 24) (fr := (0, 0)) (hX)⟩) (by simp [Value.oneCell']) (by unfold maxLen; omega) (by omega) (by have := p2.size; simp <;> omega) ?_; intro v4 w4 hown4 hgrow; have p4 : Below w1.heap.size w1 w4 := p2.grown hgrow (by have := p2.size; simp <;> omega) (fun q hq => (hO2.out.lt q hq).1))
        | (refine step_append_self (by rfl) _ _ 22 (by rfl) w1.heap.size 24 i0 (.agg #[.int .i64 0, .int .i64 0, .int .i64 0, .int .i64 0, .int .i64 0]) 5 40 Try.underlying22 hinf hz0 hz1 hz2 rfl (by decide) _ l.length (fcCells l) (by rfl) (own_below hO2.out (Below.drew (Below.refl _ _))) (some ⟨w1.heap.size + 1, 0, none⟩) 1 1 [.int .i64 x.a, .int .i64 x.c, .int .i64 x.f, .int .i64 x.t, .int .i64 x.m] (by rfl) (by rfl) (.inr ⟨_, rfl, World.news_of_block (cs := #[.int .i64 x.a, .int .i64 x.c, .int .i64 x.f, .int .i64 x.t, .int .i64 x.m]) (t := 24) (fr := (0, 0)) (hX)⟩) (by simp [Value.oneCell']) (by unfold maxLen; omega) (by omega) (by have := p2.size; simp <;> omega) ?_; intro v4 w4 hown4 hgrow; have p4 : Below w1.heap.size w1 w4 := p2.drew.grown hgrow (by have := p2.size; simp <;> omega) (fun q hq => (hO2.out.lt q hq).1))
        | (refine step_append_self (by rfl) _ _ 22 (by rfl) w1.heap.size 24 i0 (.agg #[.int .i64 0, .int .i64 0, .int .i64 0, .int .i64 0, .int .i64 0]) 5 40 Try.underlying22 hinf hz0 hz1 hz2 rfl (by decide) _ l.length (fcCells l) (by rfl) (own_below hO2.out (Below.drew (Below.refl _ _))) (some ⟨w1.heap.size, 0, none⟩) 1 1 [.int .i64 x.a, .int .i64 x.c, .int .i64 x.f, .int .i64 x.t, .int .i64 x.m] (by rfl) (by rfl) (.inr ⟨_, rfl, World.news_of_block (cs := #[.int .i64 x.a, .int .i64 x.c, .int .i64 x.f, .int .i64 x.t, .int .i64 x.m]) (t := 24) (fr := (0, 0)) (hX)⟩) (by simp [Value.oneCell']) (by unfold maxLen; omega) (by omega) (by have := p2.size; simp <;> omega) ?_; intro v4 w4 hown4 hgrow; have p4 : Below w1.heap.size w1 w4 := p2.drew.grown hgrow (by have := p2.size; simp <;> omega) (fun q hq => (hO2.out.lt q hq).1)))
    all_goals
      have HO2 := hid (show OwnF w4 w.heap.size v4 (l ++ [x]) by
        unfold OwnF
        rw [fcCells_snoc, List.length_append, List.length_singleton]
        exact own_weak hown4 hs1)
      have hl2 : (l ++ [x]).length ≤ 61 := by simp; omega
      clear hown4 hgrow HL HLs HFl HKp HEmp HEmB HEmC HF1
      generalize l ++ [x] = l2 at *
      obtain ⟨A, c5, rfl, hc5⟩ := HO2.out.sl
      have hat := hid (HO2.out.at_ (by omega))
      have HV2 := hid (rvalidate_any A l2 c5 w4 hat.out)
      have p5 := p1.trans (p4.mono hs1)
      by_cases h2 : validE l2 = 0
      · have HM := hid ((HA.out).trans (if_pos h2))
        rw [h2] at HV2
        clear h2
        go_wp2_with fail
        refine HV2.out.mono ?_
        rintro e w6 ⟨q6, rfl⟩
        have p6 := p5.trans (q6.mono p5.size)
        have hat6 := hid (hat.out.below q6)
        go_wp2
        go_ret2
        exact ⟨p6, A, c5, by rw [HM.out]; rfl, by rw [HM.out]; exact hc5, by rw [HM.out]; exact hat6.out⟩
      · have HM := hid ((HA.out).trans (if_neg h2))
        have h2' : (validE l2 != 0) = true := by simp [h2]
        clear h2
        generalize validE l2 = y at *
        go_wp2_with fail
        refine HV2.out.mono ?_
        rintro e w6 ⟨q6, rfl⟩
        have p6 := p5.trans (q6.mono p5.size)
        go_wp2
        go_ret2
        exact ⟨p6, none, 0, by rw [HM.out]; rfl, by rw [HM.out]; exact Nat.le_refl _, by rw [HM.out]; exact factsNil _⟩
  · have HM := hid ((HA.out).trans (if_neg h0))
    have h0' : (validE l != 0) = true := by simp [h0]
    clear h0 hl
    generalize validE l = y at *
    go_enter Try.func16, Try.ntmps16
    go_wp2_with fail
    refine HV.out.mono ?_
    rintro e w1 ⟨q1, rfl⟩
    go_wp2
    go_ret2
    exact ⟨hB0.trans (q1.mono (by simp)), none, 0, by rw [HM.out]; rfl, by rw [HM.out]; exact Nat.le_refl _, by rw [HM.out]; exact factsNil _⟩
end Go.Proofs.Ytkepjoociidkcaa
