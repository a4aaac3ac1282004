/- Earliest: package van. -/
import Derived.Test.YtbffdpcogfmomaaVaEa
import Derived.Test.YtbffdpcogfmomaaVaTour2
import Derived.Deep.RegionHeld3
/- Earliest, the program's: its costs, its deferred call. -/
set_option linter.unusedVariables false
namespace Go.Proofs.Ytbffdpcogfmomaa
open Go.RowKit

set_option maxRecDepth 100000 in
set_option maxHeartbeats 4000000 in
/-- The costs of Earliest: when the van is back; what is not late is allowed. -/
theorem earlCost {W0 : World} {t : Tbl} {l : List St} {a A : Option Addr} {b : Int} {cap c g0 g1 g2 : Nat} (hT : TabAt W0 a t) (hS : StsAt W0 A l) (ht : Ways t) (hl : StsOk l t.length) (hb : 0 ≤ b ∧ b ≤ 10000)
    (k0 : W0.cell? ⟨g0, 0, none⟩ = some (.slice a t.length cap)) (k1 : W0.cell? ⟨g1, 0, none⟩ = some (.slice A l.length c)) (k2 : W0.cell? ⟨g2, 0, none⟩ = some (.int .i64 b)) :
    CostQ W0 (stopsL t.length) (fun o => backD t l o b) (fun o => inTB t l o b) 84 #[.pointer (some ⟨g0, 0, none⟩), .pointer (some ⟨g1, 0, none⟩), .pointer (some ⟨g2, 0, none⟩)] := by
  intro w B d o hbel hI hp
  have ho : IsTour o t.length := hp
  have hol := ho.len
  have hl7 := ht.len
  have c0 := (hbel.cell (cell_lt k0)).trans k0
  have c1 := (hbel.cell (cell_lt k1)).trans k1
  have c2 := (hbel.cell (cell_lt k2)).trans k2
  have HD := hid (vDrive_any a A B t l o b cap c d w (hT.below hbel) (hS.below hbel) hI ht hl ho.stops hb (by omega))
  have HF := hid (fun (W : World) (V : Option Addr) (e base : Nat) (hb2 : Below w.heap.size w W) hV => vFirstLate_any A V t l o b c e base W ((hS.below hbel).below hb2) hV hl hl7 ho.stops (by omega))
  have HK := hid (fun (W : World) (hb : Below w.heap.size w W) => (hb.cell (cell_lt c1)).trans c1)
  clear hT hS ht hl hbel hI hp ho hb k0 k1 k2
  show Calls Try.prog 84 #[.slice B o.length d, .pointer (some ⟨g0, 0, none⟩), .pointer (some ⟨g1, 0, none⟩), .pointer (some ⟨g2, 0, none⟩)] w _
  obtain ⟨n, hn⟩ : ∃ n, o.length = n := ⟨_, rfl⟩
  have HN := hid hn
  rw [hn] at HD HF hol
  rw [hn]
  have hol2 : n ≤ 6 := by omega
  clear hn hol
  go_enter Try.func84, Try.ntmps84
  go_wp2_with fail
  refine HD.out.mono ?_
  rintro e w2 ⟨hb2, V, e2, rfl, hV⟩
  rw [HN.out] at hV ⊢
  have HB2 := hid hb2
  have HC2 := hid (HF.out w2 V e2 _ HB2.out hV)
  have c1' := HK.out w2 hb2
  clear hb2 hV c0 c1 c2 HD HF
  go_wp2_with fail
  refine HC2.out.mono ?_
  rintro e w3 ⟨hb3, m, rfl, hm⟩
  have HB3 := hid (HB2.out.trans (hb3.mono HB2.out.size))
  have hml := hm.le
  rw [HN.out] at hml
  have HE := hid hm.inT
  rw [HN.out] at HE
  clear hb3 hm HC2
  by_cases hlt : m = n
  · rw [decide_eq_true hlt] at HE
    have hlt' : ((m : Int) == (n : Int)) = true := by simp; omega
    clear hlt
    go_wp2
    go_ret2
    exact ⟨HB3.out, by rw [HE.out]; first | rfl | (simp; omega)⟩
  · rw [decide_eq_false hlt] at HE
    have hlt' : ((m : Int) == (n : Int)) = false := by simp; omega
    clear hlt
    go_wp2
    go_ret2
    exact ⟨HB3.out, by rw [HE.out]; first | rfl | (simp; omega)⟩
/-- What the deferred call leaves: three variables. -/
structure Three (ta tb tc : Nat) (F : Option Addr) (k c : Nat) (m : Int) (ok : Bool) (w : World) : Prop where
  t0 : w.heap[ta]? = some (.cells #[.slice F k c] 23 (0, 0))
  t1 : w.heap[tb]? = some (.cells #[.int .i64 m] 3 (0, 0))
  t2 : w.heap[tc]? = some (.cells #[.bool ok] 4 (0, 0))
theorem one_other {w : World} {B C : Nat} {u v : Value} {t : TypeId} (h : w.heap[B]? = some (.cells #[u] t (0, 0))) (hne : B ≠ C) : (w.setCell ⟨C, 0, none⟩ v).heap[B]? = some (.cells #[u] t (0, 0)) := by
  rw [heap_setCell_other w ⟨C, 0, none⟩ B v hne]; exact h
theorem Three.write {ta tb tc : Nat} {F G : Option Addr} {k k' c c' : Nat} {m m' : Int} {ok ok' : Bool} {w : World} (h : Three ta tb tc F k c m ok w) (h1 : ta ≠ tb) (h2 : ta ≠ tc) (h3 : tb ≠ tc) : Three ta tb tc G k' c' m' ok' (((w.setCell ⟨ta, 0, none⟩ (.slice G k' c')).setCell ⟨tb, 0, none⟩ (.int .i64 m')).setCell ⟨tc, 0, none⟩ (.bool ok')) :=
  ⟨one_other (one_other (one_set h.t0) h1) h2, one_other (one_set (one_other h.t1 h1.symm)) h3, one_set (one_other (one_other h.t2 h2.symm) h3.symm)⟩
theorem Three.below {ta tb tc : Nat} {F : Option Addr} {k c : Nat} {m : Int} {ok : Bool} {w w' : World} (h : Three ta tb tc F k c m ok w) (hb : Below w.heap.size w w') : Three ta tb tc F k c m ok w' :=
  ⟨(hb.block _ (lt_block h.t0)).trans h.t0, (hb.block _ (lt_block h.t1)).trans h.t1, (hb.block _ (lt_block h.t2)).trans h.t2⟩
set_option maxRecDepth 100000 in
set_option maxHeartbeats 4000000 in
theorem catchE_panicking (ta tb tc : Nat) (x : Option Addr) (y z : Nat) (m0 : Int) (ok : Bool) (F : Option Addr) (k c : Nat) (m : Int) (w : World) (h : Three ta tb tc x y z m0 ok w) (n1 : ta ≠ tb) (n2 : ta ≠ tc) (n3 : tb ≠ tc) :
    CallsD Try.prog 83 #[.pointer (some ⟨ta, 0, none⟩), .pointer (some ⟨tb, 0, none⟩), .pointer (some ⟨tc, 0, none⟩)] (.panicking [{ v := .iface 79 (.agg #[.slice F k c, .int .i64 m]), recovered := false }]) w fun e u' w' =>
      e = .returned (.tuple #[]) ∧ u' = .panicking [{ v := .iface 79 (.agg #[.slice F k c, .int .i64 m]), recovered := true }] ∧ Keep3 ta tb tc w w' ∧ Three ta tb tc F k c m true w' := by
  have hta := ta_hit (.agg #[.slice F k c, .int .i64 m])
  refine callsD_of_wpS Try.func83 rfl fun c₀ cs hu => ?_
  simp only [Try.ntmps83, List.size_toArray, List.length_cons, List.length_nil, Nat.reduceAdd, Nat.reduceSub, Array.replicate_succ, Array.replicate_zero, List.push_toArray, List.append_toArray, List.nil_append, List.cons_append]
  apply wpS_seq
  apply wpS_region
  simp [wpOpsS, go_sem, recoverD, hu, hta, Exit.thenS]
  have hal := (Below.refl w.heap.size w).alloc (Nat.le_refl _) (.cells #[.slice F k c, .int .i64 m] 79)
  have h1 := h.below hal
  have hz := heap_alloc_new w (.cells #[.slice F k c, .int .i64 m] 79)
  have hn := two_cell hz
  have hK := hid (Keep3.of (g := ta) (b2 := tb) (b3 := tc) hal)
  generalize w.alloc (.cells #[.slice F k c, .int .i64 m] 79) = w1 at *
  apply wpS_seq
  apply wpS_region
  simp [wpOpsS, go_sem, Exit.thenS]
  refine wpS_cond (t := true) (by simp [Act.eval]) ?_
  simp only [if_true]
  refine wpS_of_wp ?_
  have a0 := one_cell h1.t0
  have a1 := one_cell h1.t1
  have a2 := one_cell h1.t2
  have f0 := one_free h1.t0 0
  have f1 := one_free h1.t1 0
  have f2 := one_free h1.t2 0
  obtain ⟨e0, e1⟩ := hn
  have HW := hid (h1.write (G := F) (k' := k) (c' := c) (m' := m) (ok' := true) n1 n2 n3)
  clear h h1 hz hal
  have hk9 := hid ((((hK.out.set ⟨ta, 0, none⟩ (.slice F k c) (.inl rfl)).set ⟨tb, 0, none⟩ (.int .i64 m) (.inr (.inl rfl))).set ⟨tc, 0, none⟩ (.bool true) (.inr (.inr rfl))).trans (Keep3.of (Below.refl _ _).drew))
  go_region
  generalize ((w1.setCell ⟨ta, 0, none⟩ (.slice F k c)).setCell ⟨tb, 0, none⟩ (.int .i64 m)).setCell ⟨tc, 0, none⟩ (.bool true) = w2 at *
  simp [bodyPostS, results, Try.results83]
  exact ⟨hk9.out, HW.out.below (Below.drew (Below.refl _ _))⟩
set_option maxRecDepth 100000 in
set_option maxHeartbeats 4000000 in
theorem catchE_idle (ta tb tc : Nat) (w : World) :
    CallsD Try.prog 83 #[.pointer (some ⟨ta, 0, none⟩), .pointer (some ⟨tb, 0, none⟩), .pointer (some ⟨tc, 0, none⟩)] .returning w fun e u' w' =>
      e = .returned (.tuple #[]) ∧ u' = .returning ∧ Below w.heap.size w w' := by
  have hta := ta_nil
  have hal := (Below.refl w.heap.size w).alloc (Nat.le_refl _) (.cells #[.slice none 0 0, .int .i64 0] 79)
  refine callsD_of_wpS Try.func83 rfl fun c₀ cs hu => ?_
  simp only [Try.ntmps83, List.size_toArray, List.length_cons, List.length_nil, Nat.reduceAdd, Nat.reduceSub, Array.replicate_succ, Array.replicate_zero, List.push_toArray, List.append_toArray, List.nil_append, List.cons_append]
  apply wpS_seq
  apply wpS_region
  simp [wpOpsS, go_sem, recoverD, hu, hta, Exit.thenS]
  generalize w.alloc (.cells #[.slice none 0 0, .int .i64 0] 79) = w1 at *
  apply wpS_seq
  apply wpS_region
  simp [wpOpsS, go_sem, Exit.thenS]
  refine wpS_cond (t := false) (by simp [Act.eval]) ?_
  simp only [Bool.false_eq_true, if_false]
  refine wpS_of_wp (wp_skip ?_)
  cases c₀
  simp_all [bodyPostS, results, Try.results83]
end Go.Proofs.Ytbffdpcogfmomaa
/- No tour brings the van back before the begin, the shortest length and all stays: package van. -/
set_option linter.unusedVariables false
namespace Go.Proofs.Ytbffdpcogfmomaa
open Go.RowKit

/-- The stays of the stops 1 to k. -/
def stK (l : List St) : Nat → Int
  | 0 => 0
  | k + 1 => stK l k + (stAt l (k + 1)).sy
def syS (l : List St) (q : List Int) : Nat → Int
  | 0 => 0
  | k + 1 => syS l q k + (stI l (vAt q k)).sy
theorem lv_ge (t : Tbl) (l : List St) (q : List Int) (b : Int) : ∀ k, b + preL t q k + syS l q k ≤ lv t l q b k := by
  intro k
  induction k with
  | zero => simp [preL, syS, lv]
  | succ k ih => simp only [preL, syS, lv]; omega
theorem perm_sumZ {a b : List Int} (h : a.Perm b) : a.sum = b.sum := by
  induction h with
  | nil => rfl
  | cons x _ ih => simp [ih]
  | swap x y l => simp only [List.sum_cons]; omega
  | trans _ _ h1 h2 => rw [h1, h2]
theorem syS_sum (l : List St) (q : List Int) : ∀ k, k ≤ q.length → syS l q k = ((q.take k).map fun x => (stI l x).sy).sum := by
  intro k
  induction k with
  | zero => intro _; simp [syS]
  | succ k ih =>
    intro hk
    rw [syS, ih (by omega), List.take_succ_eq_append_getElem (by omega), List.map_append, List.sum_append]
    have : vAt q k = q[k] := by simp [vAt, show k < q.length by omega]
    simp [this]
theorem stK_sum (l : List St) : ∀ n, stK l n = (((List.range n).map fun (i : Nat) => (i : Int) + 1).map fun x => (stI l x).sy).sum := by
  intro n
  induction n with
  | zero => rfl
  | succ n ih =>
    rw [stK, ih, List.range_succ, List.map_append, List.map_append, List.sum_append]
    have e : ((n : Int) + 1).toNat = n + 1 := by omega
    simp [stI, e]
theorem back_ge {t : Tbl} {l : List St} {q : List Int} {b : Int} (hq : IsTour q t.length) : b + tourL t q + stK l (t.length - 1) ≤ backD t l q b := by
  have h1 := lv_ge t l q b q.length
  have h2 : syS l q q.length = stK l (t.length - 1) := by
    rw [syS_sum l q _ (Nat.le_refl _), List.take_length, stK_sum]
    exact perm_sumZ (hq.map _)
  unfold backD tourL
  omega
theorem stK_bd {l : List St} {n : Nat} (h : StsOk l n) : ∀ k, k < n → 0 ≤ stK l k ∧ stK l k ≤ 10000 * k := by
  intro k
  induction k with
  | zero => intro _; simp [stK]
  | succ k ih =>
    intro hk
    have h1 := ih (by omega)
    have h2 := (h.all _ (stAt_mem (i := k + 1) (by rw [h.len]; omega))).2.2.1
    simp only [stK]
    omega
set_option maxRecDepth 100000 in
/-- All stops but the first place. -/
theorem run_from1 (A : Option Addr) (n m c : Nat) (hn : n = m + 1) (hc : n ≤ c) : ∃ A1 c1, (m = 0 ∨ A1 = A.map (·.add 4)) ∧ ∀ W : World, (Instr.sliceAt 47 (.slice A n c) (some (.int .i64 1)) none none).run Try.prog W = .ok (.slice A1 m c1) W := by
  obtain rfl : m = n - 1 := by omega
  obtain ⟨i0, hinf, hz0, hz1, hz2⟩ := info_parts (show (Try.prog.info? 105).map (fun i => (i.zero, i.size, i.bytes)) = some (some (.agg #[.int .i64 0, .int .i64 0, .int .i64 0, .int .i64 0]), 4, 32) by kernel_rfl)
  refine ⟨if c = 1 then A else A.map (·.add (1 * i0.size)), c - 1, ?_, fun W => ?_⟩
  · by_cases h : c = 1
    · exact .inl (by omega)
    · rw [if_neg h, hz1]
      exact .inr rfl
  · have hb := run_sliceBound (P := Try.prog) (w := W) .i64 (1 : Int) n .sliceB (by omega) (by omega)
    simp [Instr.sliceAt, Instr.slice, Instr.sliceBounds, run_underlying Try.underlying47, hb, sizeOf, typeInfo, hinf, go_sem]
theorem alloc6 (w : World) (o0 o1 o2 o3 o4 o5 : Obj) : ∃ W, W = (((((w.alloc o0).alloc o1).alloc o2).alloc o3).alloc o4).alloc o5 ∧ W.heap[w.heap.size]? = some o0 ∧ W.heap[w.heap.size + 1]? = some o1 ∧ W.heap[w.heap.size + 1 + 1]? = some o2 ∧ W.heap[w.heap.size + 1 + 1 + 1]? = some o3 ∧ W.heap[w.heap.size + 1 + 1 + 1 + 1]? = some o4 ∧ W.heap[w.heap.size + 1 + 1 + 1 + 1 + 1]? = some o5 ∧ Below w.heap.size w W ∧ W.heap.size = w.heap.size + 6 := by
  obtain ⟨x0, x1, x2, x3, x4, xb, xs⟩ := alloc5 w o0 o1 o2 o3 o4
  have k : ∀ (W : World) (i : Nat) (ob o : Obj), W.heap[i]? = some ob → (W.alloc o).heap[i]? = some ob := fun W i ob o h => by
    rw [((Below.refl _ W).alloc (Nat.le_refl _) o).block i (lt_block h)]; exact h
  refine ⟨_, rfl, k _ _ _ _ x0, k _ _ _ _ x1, k _ _ _ _ x2, k _ _ _ _ x3, k _ _ _ _ x4, ?_, xb.alloc (by omega) _, by simp⟩
  have := heap_alloc_new (((((w.alloc o0).alloc o1).alloc o2).alloc o3).alloc o4) o5
  rw [xs] at this
  exact this
theorem results_c3 {P : Program} {fn : Func} {p0 p1 p2 q : Tmp} {y0 y1 y2 : TypeId} (h : fn.results = #[.cell p0 y0, .cell p1 y1, .cell p2 y2, .tmp q]) (tmps : Array Value) (w : World) (A0 A1 A2 : Addr) (v0 v1 v2 : Value)
    (h0 : tmps.getD p0 undef = .pointer (some A0)) (h1 : tmps.getD p1 undef = .pointer (some A1)) (h2 : tmps.getD p2 undef = .pointer (some A2)) (l0 : (loadVar y0 A0).run P w = .ok v0 w) (l1 : (loadVar y1 A1).run P w = .ok v1 w) (l2 : (loadVar y2 A2).run P w = .ok v2 w) :
    (results fn tmps).run P w = .ok (.tuple #[v0, v1, v2, tmps.getD q undef]) w := by
  have h0' : tmps[p0]?.getD undef = .pointer (some A0) := by simpa using h0
  have h1' : tmps[p1]?.getD undef = .pointer (some A1) := by simpa using h1
  have h2' : tmps[p2]?.getD undef = .pointer (some A2) := by simpa using h2
  simp only [results, h]
  simp [Sem.run_bind, Result.andThen, h0', h1', h2', asAddr, l0, l1, l2]
theorem load_int (w : World) (A : Addr) (x : Int) (hc : w.cell? A = some (.int .i64 x)) : (loadVar 3 A).run Try.prog w = .ok (.int .i64 x) w := by
  simp [go_sem, hc]
theorem load_bool (w : World) (A : Addr) (x : Bool) (hc : w.cell? A = some (.bool x)) : (loadVar 4 A).run Try.prog w = .ok (.bool x) w := by
  simp [go_sem, hc]
end Go.Proofs.Ytbffdpcogfmomaa
set_option linter.unusedVariables false
namespace Go.Proofs.Ytbffdpcogfmomaa
open Go.RowKit

/-- What the program's Earliest answers. -/
def EarP (t : Tbl) (l : List St) (b : Int) (w : World) (en : Ending) (w' : World) : Prop :=
  Below w.heap.size w w' ∧ ((drvE t l [] b ≠ 0 ∧ en = .returned (.tuple #[.slice none 0 0, .int .i64 0, .bool false, .int .i64 (drvE t l [] b)])) ∨
    (drvE t l [] b = 0 ∧ ((IsEarl t l b none ∧ en = .returned (.tuple #[.slice none 0 0, .int .i64 0, .bool false, .int .i64 0])) ∨
      ∃ F c f, IsEarl t l b (some (backD t l f b)) ∧ IsTour f t.length ∧ inTB t l f b = true ∧ Ints w' F f ∧ en = .returned (.tuple #[.slice F f.length c, .int .i64 (backD t l f b), .bool true, .int .i64 0]))))
/-- What the search hands on, returned or as a panic. -/
theorem searchE {t : Tbl} {l : List St} {b : Int} (ht : Ways t) (hl : StsOk l t.length) (hb : 0 ≤ b ∧ b ≤ 10000) {a A : Option Addr} {cap c g0 g1 g2 : Nat} {w2 : World} (hT : TabAt w2 a t) (hS : StsAt w2 A l)
    (k0 : w2.cell? ⟨g0, 0, none⟩ = some (.slice a t.length cap)) (k1 : w2.cell? ⟨g1, 0, none⟩ = some (.slice A l.length c)) (k2 : w2.cell? ⟨g2, 0, none⟩ = some (.int .i64 b))
    (W : World) (en : Int) (hW : Below w2.heap.size w2 W) (hen : -200000 ≤ en ∧ en ≤ 200000) (hmin : ∀ q, IsTour q t.length → en ≤ backD t l q b) :
    Calls Try.prog 62 #[.int .i64 (t.length : Int), .int .i64 en, .func (.func 84) #[] #[.pointer (some ⟨g0, 0, none⟩), .pointer (some ⟨g1, 0, none⟩), .pointer (some ⟨g2, 0, none⟩)]] W (fun e W' =>
      (∃ F k c m s, e = .returned (.tuple #[.agg #[.slice F k c, .int .i64 m], .bool s]) ∧ Below W.heap.size W W' ∧
        ((s = false ∧ F = none ∧ k = 0 ∧ c = 0 ∧ m = 0 ∧ IsEarl t l b none) ∨ ∃ f, s = true ∧ k = f.length ∧ m = backD t l f b ∧ IsEarl t l b (some m) ∧ IsTour f t.length ∧ inTB t l f b = true ∧ Ints W' F f ∧ ∀ ad, F = some ad → W.heap.size ≤ ad.block)) ∨
      ∃ F c f, e = .panicked [{ v := .iface 79 (.agg #[.slice F f.length c, .int .i64 (backD t l f b)]), recovered := false }] ∧ Below W.heap.size W W' ∧ Ints W' F f ∧ IsTour f t.length ∧ inTB t l f b = true ∧ IsEarl t l b (some (backD t l f b))) := by
  have hc := (hW.cell (cell_lt k0)).trans k0
  refine (search_any t.length ht.len ht.pos (fun o => backD t l o b) (fun o => inTB t l o b) hen W (earlCost (hT.below hW) (hS.below hW) ht hl hb ((hW.cell (cell_lt k0)).trans k0) ((hW.cell (cell_lt k1)).trans k1) ((hW.cell (cell_lt k2)).trans k2)) (fun args w => by kernel_rfl)).mono ?_
  rintro e W' (⟨s, u, v, rfl, hb1, hF⟩ | ⟨F, c, f, rfl, hb1, hI, hp, ha, hc⟩)
  · left
    cases s with
    | none =>
      obtain ⟨rfl, rfl⟩ := hF.no rfl
      exact ⟨none, 0, 0, 0, false, rfl, hb1, .inl ⟨rfl, rfl, rfl, rfl, rfl, ⟨(fun m hm => by cases hm), fun q hq hi => hF.low q hq hi⟩⟩⟩
    | some m =>
      obtain ⟨F, c, f, rfl, rfl, hI, hfar, hp, ha, hm⟩ := hF.yes m rfl
      subst hm
      exact ⟨F, f.length, c, _, true, rfl, hb1, .inr ⟨f, rfl, rfl, rfl, ⟨(fun m hm => by cases hm; exact ⟨f, hp, ha, rfl⟩), fun q hq hi => hF.low q hq hi⟩, hp, ha, hI, hfar⟩⟩
  · exact .inr ⟨F, c, f, rfl, hb1, hI, hp, ha, ⟨(fun m hm => by cases hm; exact ⟨f, hp, ha, rfl⟩), fun q hq hi => ⟨_, rfl, Int.le_trans hc (hmin q hq)⟩⟩⟩
/-- The three variables are no list of stops. -/
theorem ints_three {ta tb tc : Nat} {w w' : World} {F : Option Addr} {f : List Int} (h : Ints w F f) (h3 : Three ta tb tc none 0 0 0 false w) (hk : Keep3 ta tb tc w w') (hp : ∀ x ∈ f, 1 ≤ x) : Ints w' F f := by
  by_cases h0 : f.length = 0
  · obtain rfl := List.eq_nil_of_length_eq_zero h0
    exact ⟨h.len, .inl rfl, h.bd⟩
  · refine h.keep3 hk (fun ad had => ?_)
    rcases h.at_ with e | ⟨b, off, rfl, hc⟩
    · rw [e] at h0; simp at h0
    · cases had
      have h1 := hc 0 (by omega)
      have hl0 : 0 < f.length := by omega
      have hx : (1 : Int) ≤ (f[0]?.getD 0 : Int) := by
        have := hp (f[0]) (List.getElem_mem hl0)
        simpa [hl0] using this
      generalize f[0]?.getD 0 = x at *
      have key : ∀ (B : Nat) (u : Value) (ty : TypeId), w.heap[B]? = some (.cells #[u] ty (0, 0)) → u ≠ .int .i64 x → b ≠ B := by
        rintro B u ty hB hu rfl
        rw [cell_of_row w b (off + 0) #[u] ty (0, 0) hB] at h1
        cases hk : off + 0 with
        | zero => rw [hk] at h1; simp at h1; exact hu h1
        | succ k => rw [hk] at h1; simp at h1
      exact ⟨key _ _ _ h3.t0 (by simp), key _ _ _ h3.t1 (by simp; omega), key _ _ _ h3.t2 (by simp)⟩
set_option maxRecDepth 100000 in
set_option maxHeartbeats 8000000 in
theorem vEarliest_any (a A : Option Addr) (t : Tbl) (l : List St) (b : Int) (cap c : Nat) (w : World) (h : TabAt w a t) (hs : StsAt w A l) (hcap : l.length ≤ c) : Calls Try.prog 48 #[.slice a t.length cap, .slice A l.length c, .int .i64 b] w (EarP t l b w) := by
  obtain ⟨w1, hw1, x0, x1, x2, x3, x4, x5, xb, xs⟩ := alloc6 w (.cells #[.slice a t.length cap] 22) (.cells #[.slice A l.length c] 47) (.cells #[.int .i64 b] 3) (.cells #[.slice none 0 0] 23) (.cells #[.int .i64 0] 3) (.cells #[.bool false] 4)
  have HW1 := hid hw1
  clear hw1
  have hT := h.below xb
  have hS := hs.below xb
  have HXB := hid xb
  have HX0 := hid x0
  have HX1 := hid x1
  have HX2 := hid x2
  have HTr := hid (show Three (w.heap.size + 1 + 1 + 1) (w.heap.size + 1 + 1 + 1 + 1) (w.heap.size + 1 + 1 + 1 + 1 + 1) none 0 0 0 false w1 from ⟨x3, x4, x5⟩)
  have HTb := hid hT
  have HSt := hid hS
  have HV := hid (show Calls Try.prog 76 #[.slice a t.length cap, .slice A l.length c, .slice none 0 0, .int .i64 b] w1 (IntR w1 (drvE t l [] b)) from vCheckDrive_any a A none t l [] b cap c 0 w1 hT hS ⟨by simp, .inl rfl, by simp⟩)
  have k0 := one_cell x0
  have k1 := one_cell x1
  have k2 := one_cell x2
  have hxs : w.heap.size + 6 ≤ w1.heap.size := by omega
  clear h hs hT hS x0 x1 x2 x3 x4 x5 xb xs
  by_cases hv : drvE t l [] b = 0
  · obtain ⟨ht, hl, _, _, hb⟩ := drvE_ok hv
    have hl7 := ht.len
    have hpos := ht.pos
    have hll := hl.len
    rw [hv] at HV
    have HE := hid hv
    have HWy := hid ht
    have HSo := hid hl
    have HLl := hid hll
    clear hv ht hl hll
    go_enter_defers Try.func48, Try.ntmps48
    go_wp2_with fail
    rw [← HW1.out]
    refine HV.out.mono ?_
    rintro e w2 ⟨hb2, rfl⟩
    have HB2 := hid hb2
    have j0 := (hb2.cell (cell_lt k0)).trans k0
    have j1 := (hb2.cell (cell_lt k1)).trans k1
    have j2 := (hb2.cell (cell_lt k2)).trans k2
    have HTb2 := hid (HTb.out.below hb2)
    have HSt2 := hid (HSt.out.below hb2)
    have HTr2 := hid (HTr.out.below hb2)
    have hsz2 := hb2.size
    clear hb2 k0 k1 k2 HV
    go_wp2_with fail
    have HKp := hid (fun (W : World) (hb : Below w2.heap.size w2 W) => (show W.cell? ⟨w.heap.size, 0, none⟩ = some (.slice a t.length cap) ∧ W.cell? ⟨w.heap.size + 1, 0, none⟩ = some (.slice A l.length c) ∧ W.cell? ⟨w.heap.size + 1 + 1, 0, none⟩ = some (.int .i64 b) ∧ Below w2.heap.size w2 W from ⟨(hb.cell (cell_lt j0)).trans j0, (hb.cell (cell_lt j1)).trans j1, (hb.cell (cell_lt j2)).trans j2, hb⟩))
    have HLe := hid (fun (W : World) (h : W.cell? ⟨w.heap.size, 0, none⟩ = some (.slice a t.length cap) ∧ W.cell? ⟨w.heap.size + 1, 0, none⟩ = some (.slice A l.length c) ∧ W.cell? ⟨w.heap.size + 1 + 1, 0, none⟩ = some (.int .i64 b) ∧ Below w2.heap.size w2 W) => (vLeast_any a t cap W (HTb2.out.below h.2.2.2) HWy.out).mono (fun en W2 (hp : LeastV t W en W2) => (show (∃ v0, en = .returned (.int .i64 v0) ∧ Below w2.heap.size w2 W2 ∧ (∀ o, IsTour o t.length → v0 ≤ tourL t o) ∧ -50000 ≤ v0 ∧ v0 ≤ 50000) from by
      obtain ⟨h1, v, h2, h3, h4, h5⟩ := hp
      exact ⟨v, h2, h.2.2.2.trans (h1.mono h.2.2.2.size), h3, h4, h5⟩)))
    have hr : Below w2.heap.size w2 w2 := Below.refl _ _
    clear j0 j1 j2
    go_region_held3 (fun w' => w'.cell? ⟨w.heap.size, 0, none⟩ = some (.slice a t.length cap) ∧ w'.cell? ⟨w.heap.size + 1, 0, none⟩ = some (.slice A l.length c) ∧ w'.cell? ⟨w.heap.size + 1 + 1, 0, none⟩ = some (.int .i64 b) ∧ Below w2.heap.size w2 w')
      ((refine HKp.out _ ?_; repeat (first | exact hr | assumption | apply Below.drew)))
      ((go_at_call 63; refine (HLe.out _ ?_).mono ?_; (assumption); rintro e w3 ⟨v0, rfl, hb3, hmin, hv1, hv2⟩))
    rename w3.cell? _ = _ ∧ _ => hHeld
    have hwr : IntKind.i64.wrap (b + v0) = b + v0 := IntWalk.i64_in _ (by omega)
    rw [hwr]
    clear hwr hHeld HLe
    obtain ⟨j0, j1, j2, _⟩ := HKp.out w3 hb3
    have HB3 := hid hb3
    have HTr3 := hid (HTr2.out.below hb3)
    have HTb3 := hid (HTb2.out.below hb3)
    have HSt3 := hid (HSt2.out.below hb3)
    have HMin := hid hmin
    obtain ⟨m, hm⟩ : ∃ m, t.length = m + 1 := ⟨t.length - 1, by omega⟩
    have HM := hid hm
    obtain ⟨b3, o3, rfl, hc3⟩ := HSt3.out.open_ (by rw [HLl.out]; omega)
    obtain ⟨A1, c1, hA1, hrun⟩ := run_from1 (some ⟨b3, o3, none⟩) l.length m c (by rw [HLl.out]; exact hm) hcap
    have hA1' : m = 0 ∨ A1 = some ⟨b3, o3 + 4, none⟩ := by
      rcases hA1 with h | h
      · exact .inl h
      · exact .inr (by rw [h]; rfl)
    have HA1 := hid hA1'
    have HC3 := hid hc3
    have hbk := fun k (hk : k < t.length) => stK_bd HSo.out k hk
    have HBk := hid hbk
    have hm6 : m ≤ 6 := by omega
    obtain ⟨base, hbase⟩ : ∃ base, b + v0 = base := ⟨_, rfl⟩
    have HBs := hid hbase
    rw [hbase]
    have hbb : -50000 ≤ base ∧ base ≤ 60000 := by omega
    have hb3s := hb3.size
    clear hb3 hmin hm hA1 hA1' hc3 hbk hbase hr
    go_wp2_with fail
    go_loopw [11, 30] (fun s11 s30 wr => ∃ (k : Nat), k ≤ m ∧ s30 = .int .i64 (k : Int) ∧ s11 = .int .i64 (base + stK l k) ∧ Hid (Below w3.heap.size w3 wr)) (fun _ s30 _ => m - (intOf s30).toNat)
    case atStart => exact ⟨0, Nat.zero_le _, rfl, by simp [stK], Below.refl _ _⟩
    case round =>
      obtain ⟨k, hk, rfl, rfl, HBr⟩ := hrel
      by_cases hlt : k < m
      · have hA : A1 = some ⟨b3, o3 + 4, none⟩ := by
          rcases HA1.out with h | h
          · omega
          · exact h
        subst hA
        obtain ⟨y0, y1, y2, y3⟩ := HC3.out (k + 1) (by rw [HLl.out, HM.out]; omega)
        rw [show o3 + (k + 1) * 4 = o3 + 4 + k * 4 by omega] at y0 y1 y2 y3
        have z0 := (HBr.out.cell (cell_lt y0)).trans y0
        have z1 := (HBr.out.cell (cell_lt y1)).trans y1
        have z2 := (HBr.out.cell (cell_lt y2)).trans y2
        have z3 := (HBr.out.cell (cell_lt y3)).trans y3
        have HStk := hid (show stK l (k + 1) = stK l k + (stAt l (k + 1)).sy from rfl)
        have e1 := HBk.out k (by rw [HM.out]; omega)
        have e2 := HBk.out (k + 1) (by rw [HM.out]; omega)
        rw [HStk.out] at e2
        have hal := hid ((Below.refl wr.heap.size wr).alloc (Nat.le_refl _) (.cells #[.int .i64 (stAt l (k + 1)).op, .int .i64 (stAt l (k + 1)).cl, .int .i64 (stAt l (k + 1)).sy, .int .i64 (stAt l (k + 1)).bx] 105))
        have hz := heap_alloc_new wr (.cells #[.int .i64 (stAt l (k + 1)).op, .int .i64 (stAt l (k + 1)).cl, .int .i64 (stAt l (k + 1)).sy, .int .i64 (stAt l (k + 1)).bx] 105)
        have r2 := (four_cell hz).2
        have HB9 := hid (HBr.out.trans (hal.out.mono HBr.out.size))
        clear y0 y1 y2 y3 hz
        generalize (stAt l (k + 1)).sy = sy at *
        generalize (stAt l (k + 1)).op = so at *
        generalize (stAt l (k + 1)).cl = sc at *
        generalize (stAt l (k + 1)).bx = sx at *
        generalize stK l k = sk at *
        have q1 : (k : Int) < (m : Int) := by omega
        have e3 : base + sk + sy = base + (sk + sy) := by omega
        have HE3 := hid e3
        clear e3
        as_aux_lemma =>
          go_wp2_with fail
          go_roundw
          case rel => exact ⟨k + 1, by omega, by go_num, by rw [HStk.out, ← HE3.out], HB9⟩
          case measure => simp [intOf]; omega
      · obtain rfl : k = m := by omega
        have HXr := hid (HB3.out.trans (HBr.out.mono HB3.out.size))
        have i0 := (HBr.out.cell (cell_lt j0)).trans j0
        have i1 := (HBr.out.cell (cell_lt j1)).trans j1
        have i2 := (HBr.out.cell (cell_lt j2)).trans j2
        have HTr9 := hid (HTr3.out.below HBr.out)
        have e1 := HBk.out k (by rw [HM.out]; omega)
        have hMin : ∀ q, IsTour q t.length → base + stK l k ≤ backD t l q b := fun q hq => by
          have h1 := back_ge (t := t) (l := l) (b := b) hq
          have h2 := HMin.out q hq
          have h3 := HBs.out
          rw [show t.length - 1 = k by rw [HM.out]; omega] at h1
          omega
        obtain ⟨en, hen⟩ : ∃ en, base + stK l k = en := ⟨_, rfl⟩
        rw [hen] at hMin ⊢
        have hen2 : -200000 ≤ en ∧ en ≤ 200000 := by omega
        have HSe := hid (searchE HWy.out HSo.out hb (HTb3.out.below HBr.out) (HSt3.out.below HBr.out) i0 i1 i2 wr en (Below.refl _ _) hen2 hMin)
        have hsr := HXr.out.size
        clear hMin hen hen2 e1 j0 j1 j2 hrun HMin HBk hlt
        as_aux_lemma =>
          go_wp2_with fail
          refine HSe.out.mono ?_
          rintro e w5 (⟨F, n5, c5, m5, s5, rfl, hb5, hh⟩ | ⟨F, c5, f, rfl, hb5, hI, hf, ha, hE⟩)
          · have HTr5 := hid (HTr9.out.below hb5)
            have HB5 := hid (HXr.out.trans (hb5.mono HXr.out.size))
            have HH := hid hh
            have hsz5 := HB5.out.size
            have hal := (Below.refl w5.heap.size w5).alloc (Nat.le_refl _) (.cells #[.slice F n5 c5, .int .i64 m5] 79)
            have T6 := HTr5.out.below hal
            have hz6 := heap_alloc_new w5 (.cells #[.slice F n5 c5, .int .i64 m5] 79)
            have a2 := one_cell T6.t2
            have f2 := one_free T6.t2 0
            have n1 : w5.heap.size ≠ w.heap.size + 1 + 1 + 1 + 1 + 1 := by omega
            have T7 := hid (show Three (w.heap.size + 1 + 1 + 1) (w.heap.size + 1 + 1 + 1 + 1) (w.heap.size + 1 + 1 + 1 + 1 + 1) none 0 0 0 s5 ((w5.alloc (.cells #[.slice F n5 c5, .int .i64 m5] 79)).setCell ⟨w.heap.size + 1 + 1 + 1 + 1 + 1, 0, none⟩ (.bool s5)) from ⟨one_other T6.t0 (by omega), one_other T6.t1 (by omega), one_set T6.t2⟩)
            have Z7 := hid (show ((w5.alloc (.cells #[.slice F n5 c5, .int .i64 m5] 79)).setCell ⟨w.heap.size + 1 + 1 + 1 + 1 + 1, 0, none⟩ (.bool s5)).heap[w5.heap.size]? = some (.cells #[.slice F n5 c5, .int .i64 m5] 79 (0, 0)) from by
              rw [heap_setCell_other _ _ _ _ n1]; exact hz6)
            have K7 := hid (((Keep3.of (g := w.heap.size + 1 + 1 + 1) (b2 := w.heap.size + 1 + 1 + 1 + 1) (b3 := w.heap.size + 1 + 1 + 1 + 1 + 1) hal)).set ⟨w.heap.size + 1 + 1 + 1 + 1 + 1, 0, none⟩ (.bool s5) (.inr (.inr rfl)))
            clear hb5 hh HSe i0 i1 i2 T6 hz6 hal
            go_wp2_with fail
            generalize (w5.alloc (.cells #[.slice F n5 c5, .int .i64 m5] 79)).setCell ⟨w.heap.size + 1 + 1 + 1 + 1 + 1, 0, none⟩ (.bool s5) = w7 at *
            clear a2 f2
            have b0 := one_cell T7.out.t0
            have b1 := one_cell T7.out.t1
            have b2 := one_cell T7.out.t2
            have g0 := one_free T7.out.t0 0
            have g1 := one_free T7.out.t1 0
            have g2 := one_free T7.out.t2 0
            have e0 := (two_cell Z7.out).1
            have e1 := (two_cell Z7.out).2
            have n2 : w5.heap.size ≠ w.heap.size + 1 + 1 + 1 := by omega
            have n3 : w5.heap.size ≠ w.heap.size + 1 + 1 + 1 + 1 := by omega
            have T9 := hid (T7.out.write (G := F) (k' := n5) (c' := c5) (m' := m5) (ok' := s5) (by omega) (by omega) (by omega))
            have K9 := hid ((((K7.out.set ⟨w.heap.size + 1 + 1 + 1, 0, none⟩ (.slice F n5 c5) (.inl rfl)).set ⟨w.heap.size + 1 + 1 + 1 + 1, 0, none⟩ (.int .i64 m5) (.inr (.inl rfl))).set ⟨w.heap.size + 1 + 1 + 1 + 1 + 1, 0, none⟩ (.bool s5) (.inr (.inr rfl))))
            have hr9 : Below w5.heap.size w5 w5 := Below.refl _ _
            go_region
            generalize (((w7.setCell ⟨w.heap.size + 1 + 1 + 1, 0, none⟩ (.slice F n5 c5)).setCell ⟨w.heap.size + 1 + 1 + 1 + 1, 0, none⟩ (.int .i64 m5)).setCell ⟨w.heap.size + 1 + 1 + 1 + 1 + 1, 0, none⟩ (.bool s5)) = w8 at *
            clear b0 b1 b2 g0 g1 g2 e0 e1 T7 Z7 K7
            go_wp2_with fail
            refine leaves_cons (f := 83) (args := #[.pointer (some ⟨w.heap.size + 1 + 1 + 1, 0, none⟩), .pointer (some ⟨w.heap.size + 1 + 1 + 1 + 1, 0, none⟩), .pointer (some ⟨w.heap.size + 1 + 1 + 1 + 1 + 1, 0, none⟩)]) (by simp) (by simp [go_sem]) ?_
            refine (catchE_idle _ _ _ _).mono ?_
            rintro e u' w'' ⟨rfl, rfl, hb9⟩
            have hd9 : Below w8.heap.size w8 w'' := (Below.drew (Below.refl w8.heap.size w8)).trans hb9
            have T10 := T9.out.below hd9
            have hb58 : Below w.heap.size w5 w8 := K9.out.below (by omega) (by omega) (by omega) (by omega)
            have HBz : Below w.heap.size w w'' := (HXB.out.trans ((HB2.out.trans (HB5.out.mono HB2.out.size)).mono (by omega))).trans (hb58.trans (hd9.mono (Nat.le_trans (show w.heap.size ≤ w5.heap.size by omega) hb58.size)))
            refine ⟨_, results_c3 Try.results48 _ _ ⟨w.heap.size + 1 + 1 + 1, 0, none⟩ ⟨w.heap.size + 1 + 1 + 1 + 1, 0, none⟩ ⟨w.heap.size + 1 + 1 + 1 + 1 + 1, 0, none⟩ (.slice F n5 c5) (.int .i64 m5) (.bool s5) rfl rfl rfl (load_var _ _ F n5 c5 (one_cell T10.t0)) (load_int _ _ _ (one_cell T10.t1)) (load_bool _ _ _ (one_cell T10.t2)), HBz, .inr ⟨HE.out, ?_⟩⟩
            rcases HH.out with ⟨rfl, rfl, rfl, rfl, rfl, hE⟩ | ⟨f, rfl, rfl, rfl, hE, hf, ha, hI, hfar⟩
            · exact .inl ⟨hE, rfl⟩
            · refine .inr ⟨F, c5, f, hE, hf, ha, (hI.keep3 K9.out (fun ad had => by have h9 := hfar ad had; exact ⟨by omega, by omega, by omega⟩)).below hd9, rfl⟩
          · have HTr5 := hid (HTr9.out.below hb5)
            have HB5 := hid (HXr.out.trans (hb5.mono HXr.out.size))
            have HI := hid hI
            have HF := hid hf
            have HA := hid ha
            have HEa := hid hE
            have hs5 := HB5.out.size
            clear hb5 hI hf ha hE HSe i0 i1 i2
            go_wp2_with fail
            refine leaves_cons (f := 83) (args := #[.pointer (some ⟨w.heap.size + 1 + 1 + 1, 0, none⟩), .pointer (some ⟨w.heap.size + 1 + 1 + 1 + 1, 0, none⟩), .pointer (some ⟨w.heap.size + 1 + 1 + 1 + 1 + 1, 0, none⟩)]) (by simp) (by simp [go_sem]) ?_
            refine (catchE_panicking _ _ _ none 0 0 0 false F f.length c5 (backD t l f b) w5 HTr5.out (by omega) (by omega) (by omega)).mono ?_
            rintro e u' w'' ⟨rfl, rfl, hk9, T10⟩
            have hb58 : Below w.heap.size w5 w'' := hk9.below (by omega) (by omega) (by omega) (by omega)
            have HBz : Below w.heap.size w w'' := (HXB.out.trans ((HB2.out.trans (HB5.out.mono HB2.out.size)).mono (by omega))).trans hb58
            exact ⟨_, results_c3 Try.results48 _ _ ⟨w.heap.size + 1 + 1 + 1, 0, none⟩ ⟨w.heap.size + 1 + 1 + 1 + 1, 0, none⟩ ⟨w.heap.size + 1 + 1 + 1 + 1 + 1, 0, none⟩ (.slice F f.length c5) (.int .i64 (backD t l f b)) (.bool true) rfl rfl rfl (load_var _ _ F f.length c5 (one_cell T10.t0)) (load_int _ _ _ (one_cell T10.t1)) (load_bool _ _ _ (one_cell T10.t2)), HBz, .inr ⟨HE.out, .inr ⟨F, c5, f, HEa.out, HF.out, HA.out, ints_three HI.out HTr5.out hk9 (fun x hx => (HF.out.mem hx).1), rfl⟩⟩⟩
  · have HE := hid hv
    obtain ⟨e0, he0⟩ : ∃ e0, drvE t l [] b = e0 := ⟨_, rfl⟩
    have HQ := hid he0
    rw [he0] at HV hv
    have hne : (e0 == 0) = false := by simp; exact hv
    have hnn : (e0 != 0) = true := by simp; exact hv
    clear he0 hv
    go_enter_defers Try.func48, Try.ntmps48
    go_wp2_with fail
    rw [← HW1.out]
    refine HV.out.mono ?_
    rintro e w2 ⟨hb2, rfl⟩
    have HB2 := hid hb2
    have T2 := HTr.out.below hb2
    have a0 := one_cell T2.t0
    have a1 := one_cell T2.t1
    have a2 := one_cell T2.t2
    have f0 := one_free T2.t0 0
    have f1 := one_free T2.t1 0
    have f2 := one_free T2.t2 0
    have hs2 := hb2.size
    have T9 := hid (T2.write (G := none) (k' := 0) (c' := 0) (m' := 0) (ok' := false) (by omega) (by omega) (by omega))
    have K9 := hid ((((Keep3.refl (w.heap.size + 1 + 1 + 1) (w.heap.size + 1 + 1 + 1 + 1) (w.heap.size + 1 + 1 + 1 + 1 + 1) w2).set ⟨w.heap.size + 1 + 1 + 1, 0, none⟩ (.slice none 0 0) (.inl rfl)).set ⟨w.heap.size + 1 + 1 + 1 + 1, 0, none⟩ (.int .i64 0) (.inr (.inl rfl))).set ⟨w.heap.size + 1 + 1 + 1 + 1 + 1, 0, none⟩ (.bool false) (.inr (.inr rfl)))
    clear hb2 HV k0 k1 k2 T2
    go_wp2_with fail
    have hb58 := K9.out.below (base := w.heap.size) (by omega) (by omega) (by omega) (by omega)
    have HBz := HXB.out.trans ((HB2.out.mono (by omega)).trans hb58)
    exact ⟨_, results_c3 Try.results48 _ _ ⟨w.heap.size + 1 + 1 + 1, 0, none⟩ ⟨w.heap.size + 1 + 1 + 1 + 1, 0, none⟩ ⟨w.heap.size + 1 + 1 + 1 + 1 + 1, 0, none⟩ (.slice none 0 0) (.int .i64 0) (.bool false) rfl rfl rfl (load_var _ _ none 0 0 (one_cell T9.out.t0)) (load_int _ _ _ (one_cell T9.out.t1)) (load_bool _ _ _ (one_cell T9.out.t2)), HBz, .inl ⟨HE.out, by rw [HQ.out]; rfl⟩⟩
end Go.Proofs.Ytbffdpcogfmomaa
