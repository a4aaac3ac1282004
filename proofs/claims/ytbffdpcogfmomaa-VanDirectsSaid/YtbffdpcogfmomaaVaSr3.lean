/- The search for a tour: package van. -/
import Derived.Test.YtbffdpcogfmomaaVaSr2
import Derived.Laws.EntriesVeiled
import Derived.Laws.ResultCell
set_option linter.unusedVariables false
namespace Go.Proofs.Ytbffdpcogfmomaa
open Go.RowKit

/-- What the search has before it tries. -/
structure SrPre (W0 : World) (en : Int) (iv bv ev cb rb : Nat) (cf : FuncId) (caps : Array Value) (w : World) : Prop where
  below : Below W0.heap.size W0 w
  cEn : w.heap[ev]? = some (.cells #[.int .i64 en] 3 (0, 0))
  cCost : w.heap[cb]? = some (.cells #[.func (.func cf) #[] caps] 83 (0, 0))
  cIs : w.heap[iv]? = some (.cells #[.bool false] 4 (0, 0))
  cBest : w.heap[bv]? = some (.cells #[.slice none 0 0, .int .i64 0] 79 (0, 0))
  li : W0.heap.size ≤ iv
  lb : W0.heap.size ≤ bv
  lr : W0.heap.size ≤ rb
  cR : w.heap[rb]? = some (.cells #[.slice none 0 0, .int .i64 0] 79 (0, 0))
  ei : ev ≠ iv
  eb : ev ≠ bv
  er : ev ≠ rb
  ci : cb ≠ iv
  c_b : cb ≠ bv
  cr : cb ≠ rb
  bi : bv ≠ iv
  ir : iv ≠ rb
  br : bv ≠ rb
def PanQ (W0 : World) (L : List Int) (C : List Int → Int) (Al : List Int → Bool) (en : Int) (e : Ending) (w' : World) : Prop :=
  ∃ F c f, e = .panicked [{ v := .iface 79 (.agg #[.slice F f.length c, .int .i64 (C f)]), recovered := false }] ∧ Below W0.heap.size W0 w' ∧ Ints w' F f ∧ f.Perm L ∧ Al f = true ∧ C f ≤ en
def CostQ (W0 : World) (L : List Int) (C : List Int → Int) (Al : List Int → Bool) (cf : FuncId) (caps : Array Value) : Prop := ∀ (w : World) (A : Option Addr) (c : Nat) (o : List Int), Below W0.heap.size W0 w → Ints w A o → o.Perm L →
  Calls Try.prog cf (#[.slice A o.length c] ++ caps) w (fun e w' => Below w.heap.size w w' ∧ e = .returned (.tuple #[.int .i64 (C o), .bool (Al o)]))
/-- What has been found at the end. -/
structure FoundQ (L : List Int) (C : List Int → Int) (Al : List Int → Bool) (lo : Nat) (w : World) (s : Option Int) (u v : Value) : Prop where
  no : s = none → u = .slice none 0 0 ∧ v = .int .i64 0
  yes : ∀ m, s = some m → ∃ F c f, u = .slice F f.length c ∧ v = .int .i64 m ∧ Ints w F f ∧ (∀ ad, F = some ad → lo ≤ ad.block) ∧ f.Perm L ∧ Al f = true ∧ C f = m
  low : ∀ q : List Int, q.Perm L → Al q = true → ∃ m, s = some m ∧ m ≤ C q
def TtR (W0 : World) (L : List Int) (C : List Int → Int) (Al : List Int → Bool) (en : Int) (iv bv rb lo : Nat) (e : Ending) (w' : World) : Prop :=
  (e = .returned (.tuple #[]) ∧ Below W0.heap.size W0 w' ∧ ∃ s u v, w'.heap[iv]? = some (.cells #[.bool s.isSome] 4 (0, 0)) ∧ w'.heap[bv]? = some (.cells #[u, v] 79 (0, 0)) ∧ FoundQ L C Al lo w' s u v ∧ w'.heap[rb]? = some (.cells #[.slice none 0 0, .int .i64 0] 79 (0, 0))) ∨ PanQ W0 L C Al en e w'
theorem own_nodup_block {w : World} {base : Nat} {A : Option Addr} {n c : Nat} {xs : List Int} (h : Own w base (.slice A n c) xs) : A = none ∨ ∃ g, A = some ⟨g, 0, none⟩ ∧ base ≤ g ∧ g < w.heap.size := by
  rcases h.2 with ⟨hv, _⟩ | ⟨g', c', cur, hv, hg, hh, _⟩
  · simp only [Value.slice.injEq] at hv
    exact .inl hv.1
  · simp only [Value.slice.injEq] at hv
    exact .inr ⟨g', hv.1, hg, lt_block hh⟩
set_option maxRecDepth 100000 in
set_option maxHeartbeats 8000000 in
theorem tryTours_any {W0 : World} {en : Int} {iv bv ev cb rb : Nat} {cf : FuncId} {caps : Array Value} (n : Nat) (hn : n ≤ 7) (h1 : 1 ≤ n) (C : List Int → Int) (Al : List Int → Bool) (henb : -200000 ≤ en ∧ en ≤ 200000)
  (hC : CostQ W0 (stopsL n) C Al cf caps) (hg : ∀ args w, (callFunc cf args).run Try.prog w = .ok (.enter cf args) w) (w : World) (hP : SrPre W0 en iv bv ev cb rb cf caps w) :
  Calls Try.prog 93 #[.int .i64 (n : Int), .func (.func 94) #[] #[.pointer (some ⟨cb, 0, none⟩), .pointer (some ⟨iv, 0, none⟩), .pointer (some ⟨bv, 0, none⟩), .pointer (some ⟨ev, 0, none⟩)]] w (TtR W0 (stopsL n) C Al en iv bv rb (w.heap.size + 1)) := by
  have HP := hid hP
  have hb0 := hP.below.size
  have l1 := lt_block hP.cEn
  have l2 := lt_block hP.cCost
  have l3 := lt_block hP.cIs
  have l4 := lt_block hP.cBest
  have l5 := lt_block hP.cR
  have HA := hid (vAllStops_any n hn h1)
  clear hP
  go_enter Try.func93, Try.ntmps93
  go_wp2_with fail
  refine (HA.out _).mono ?_
  rintro e w2 ⟨hb2, A3, c3, rfl, hO3⟩
  have hw1 := (Below.refl w.heap.size w).alloc (Nat.le_refl _) (.cells #[.func (.func 94) #[] #[.pointer (some ⟨cb, 0, none⟩), .pointer (some ⟨iv, 0, none⟩), .pointer (some ⟨bv, 0, none⟩), .pointer (some ⟨ev, 0, none⟩)]] 124)
  have ht1 := heap_alloc_new w (.cells #[.func (.func 94) #[] #[.pointer (some ⟨cb, 0, none⟩), .pointer (some ⟨iv, 0, none⟩), .pointer (some ⟨bv, 0, none⟩), .pointer (some ⟨ev, 0, none⟩)]] 124)
  have hs1 : (w.alloc (.cells #[.func (.func 94) #[] #[.pointer (some ⟨cb, 0, none⟩), .pointer (some ⟨iv, 0, none⟩), .pointer (some ⟨bv, 0, none⟩), .pointer (some ⟨ev, 0, none⟩)]] 124)).heap.size = w.heap.size + 1 := by simp
  rw [hs1] at hb2 hO3
  have ht2 := (hb2.block w.heap.size (Nat.lt_succ_self _)).trans ht1
  have hB2 := hw1.trans (hb2.mono (Nat.le_succ _))
  have hz2 := hb2.size
  rw [hs1] at hz2
  generalize (w.alloc (.cells #[.func (.func 94) #[] #[.pointer (some ⟨cb, 0, none⟩), .pointer (some ⟨iv, 0, none⟩), .pointer (some ⟨bv, 0, none⟩), .pointer (some ⟨ev, 0, none⟩)]] 124)) = w1 at *
  go_wp2_with fail
  have hy := ((Below.refl w2.heap.size w2).alloc (Nat.le_refl _) (.cells #[.slice A3 (stopsL n).length c3] 23)).alloc (by simp) (.cells #[.func (.func 98) #[] #[.pointer (some ⟨w2.heap.size, 0, none⟩), .pointer (some ⟨w.heap.size, 0, none⟩), .pointer (some ⟨w2.heap.size + 1, 0, none⟩)]] 129)
  have hx1 : (w2.alloc (.cells #[.slice A3 (stopsL n).length c3] 23)).heap.size = w2.heap.size + 1 := by simp
  have ht3 := heap_alloc_new (w2.alloc (.cells #[.slice A3 (stopsL n).length c3] 23)) (.cells #[.func (.func 98) #[] #[.pointer (some ⟨w2.heap.size, 0, none⟩), .pointer (some ⟨w.heap.size, 0, none⟩), .pointer (some ⟨w2.heap.size + 1, 0, none⟩)]] 129)
  rw [hx1] at ht3
  have ht4 : ((w2.alloc (.cells #[.slice A3 (stopsL n).length c3] 23)).alloc (.cells #[.func (.func 98) #[] #[.pointer (some ⟨w2.heap.size, 0, none⟩), .pointer (some ⟨w.heap.size, 0, none⟩), .pointer (some ⟨w2.heap.size + 1, 0, none⟩)]] 129)).heap[w2.heap.size]? = some (.cells #[.slice A3 (stopsL n).length c3] 23 (0, 0)) := by
    rw [((Below.refl _ _).alloc (Nat.le_refl _) _).block _ (by simp)]; exact heap_alloc_new w2 _
  generalize ((w2.alloc (.cells #[.slice A3 (stopsL n).length c3] 23)).alloc (.cells #[.func (.func 98) #[] #[.pointer (some ⟨w2.heap.size, 0, none⟩), .pointer (some ⟨w.heap.size, 0, none⟩), .pointer (some ⟨w2.heap.size + 1, 0, none⟩)]] 129)) = w4 at *
  have hP := HP.out
  have hB4 := hB2.trans (hy.mono hB2.size)
  have key : ∀ g, (A3 = none ∨ A3 = some ⟨g, 0, none⟩) → W0.heap.size ≤ g → g < w2.heap.size → ev ≠ g → cb ≠ g → iv ≠ g → bv ≠ g → g ≠ w.heap.size → (A3 = some ⟨g, 0, none⟩ → rb ≠ g) →
      Calls Try.prog 98 #[.int .i64 0, .pointer (some ⟨w2.heap.size, 0, none⟩), .pointer (some ⟨w.heap.size, 0, none⟩), .pointer (some ⟨w2.heap.size + 1, 0, none⟩)] w4 (TtR W0 (stopsL n) C Al en iv bv rb (w.heap.size + 1)) := by
    intro g hgA hg0 hg2 ne1 ne2 ne3 ne4 ne5 hrg
    let p : SrP := ⟨W0, stopsL n, C, Al, en, A3, c3, g, w2.heap.size, w.heap.size, w2.heap.size + 1, iv, bv, ev, cb, cf, caps, rb, .cells #[.slice none 0 0, .int .i64 0] 79 (0, 0)⟩
    have hD : SrD p := ⟨hgA, hg0, hP.li, hP.lb, show w2.heap.size ≠ g by omega, Ne.symm ne5, show w2.heap.size + 1 ≠ g by omega, ne1, ne2, ne3, ne4, show w2.heap.size ≠ iv by omega, show w.heap.size ≠ iv by omega, show w2.heap.size + 1 ≠ iv by omega, hP.ei, hP.ci, hP.bi, show w2.heap.size ≠ bv by omega, show w.heap.size ≠ bv by omega, show w2.heap.size + 1 ≠ bv by omega, hP.eb, hP.c_b, hrg, Ne.symm hP.ir, Ne.symm hP.br, stopsL_nodup n, show (stopsL n).length ≤ 7 by rw [stopsL_len]; omega, fun x hx => by have := (stopsL_mem n x).1 hx; omega, henb⟩
    have hS : SrS p w4 (stopsL n) none := by
      refine ⟨hP.below.trans (hB4.mono hb0), own_below (own_weak hO3 (by show W0.heap.size ≤ w.heap.size + 1; omega)) (hy.mono (Nat.le_refl _)), List.Perm.refl _, show g < w4.heap.size by have := hy.size; omega, (hB4.block _ l5).trans hP.cR, ht4, ?_, ht3, (hB4.block _ l1).trans hP.cEn, (hB4.block _ l2).trans hP.cCost, (hB4.block _ l3).trans hP.cIs, .slice none 0 0, .int .i64 0, (hB4.block _ l4).trans hP.cBest, ⟨fun _ => ⟨rfl, rfl⟩, fun m hm => (by cases hm)⟩⟩
      exact (hy.block _ (by show w.heap.size < w2.heap.size; omega)).trans ht2
    have := from_any hD hC hg (stopsL n).length 0 (Nat.zero_add _) w4 (stopsL n) none hS
    refine this.mono ?_
    rintro e w5 (⟨rfl, hk5, s5, _, hs5, hl5⟩ | hp)
    · obtain ⟨u, v, h1, h2⟩ := hs5.cBest
      refine .inl ⟨rfl, hs5.below, s5, u, v, hs5.cIs, h1, ⟨h2.no, fun m hm => ?_, fun q hq ha => hl5.any q hq ha⟩, hs5.cR⟩
      obtain ⟨F, c, f, e1, e2, e3, e4, e5, e6⟩ := h2.yes m hm
      exact ⟨F, c, f, e1, e2, e3, fun ad had => (e4 ad had).2, e5, e6⟩
    · exact .inr hp
  have HR : Hid (Calls Try.prog 98 #[.int .i64 0, .pointer (some ⟨w2.heap.size, 0, none⟩), .pointer (some ⟨w.heap.size, 0, none⟩), .pointer (some ⟨w2.heap.size + 1, 0, none⟩)] w4 (TtR W0 (stopsL n) C Al en iv bv rb (w.heap.size + 1))) := by
    rcases own_nodup_block hO3 with e | ⟨g, e, h2, h3⟩
    · exact key rb (.inl e) hP.lr (by omega) hP.er hP.cr hP.ir hP.br (by omega) (fun h => by rw [e] at h; cases h)
    · exact key g (.inr e) (by omega) h3 (by omega) (by omega) (by omega) (by omega) (by omega) (fun _ => by omega)
  clear key hP hB4 ht4 ht3 hx1 hy hO3 HP HA hC hg hB2 hb2 ht2 ht1 hw1
  refine HR.out.mono ?_
  rintro e w5 (⟨rfl, h⟩ | ⟨F, c, f, rfl, h⟩)
  · have HH := hid h
    clear h
    go_wp2
    exact bodyPost_end (v := .tuple #[]) (by simp [results, Try.results93, go_sem]) rfl (.inl ⟨rfl, HH.out⟩)
  · have HH := hid h
    clear h
    go_wp2
    exact ⟨rfl, .inr ⟨F, c, f, rfl, HH.out⟩⟩
theorem alloc5 (w : World) (o0 o1 o2 o3 o4 : Obj) :
    (((((w.alloc o0).alloc o1).alloc o2).alloc o3).alloc o4).heap[w.heap.size]? = some o0 ∧ (((((w.alloc o0).alloc o1).alloc o2).alloc o3).alloc o4).heap[w.heap.size + 1]? = some o1 ∧
    (((((w.alloc o0).alloc o1).alloc o2).alloc o3).alloc o4).heap[w.heap.size + 1 + 1]? = some o2 ∧ (((((w.alloc o0).alloc o1).alloc o2).alloc o3).alloc o4).heap[w.heap.size + 1 + 1 + 1]? = some o3 ∧
    (((((w.alloc o0).alloc o1).alloc o2).alloc o3).alloc o4).heap[w.heap.size + 1 + 1 + 1 + 1]? = some o4 ∧ Below w.heap.size w (((((w.alloc o0).alloc o1).alloc o2).alloc o3).alloc o4) ∧ (((((w.alloc o0).alloc o1).alloc o2).alloc o3).alloc o4).heap.size = w.heap.size + 5 := by
  have b1 := (Below.refl w.heap.size w).alloc (Nat.le_refl _) o0
  have s1 : (w.alloc o0).heap.size = w.heap.size + 1 := by simp
  have s2 : ((w.alloc o0).alloc o1).heap.size = w.heap.size + 1 + 1 := by simp
  have s3 : (((w.alloc o0).alloc o1).alloc o2).heap.size = w.heap.size + 1 + 1 + 1 := by simp
  have s4 : ((((w.alloc o0).alloc o1).alloc o2).alloc o3).heap.size = w.heap.size + 1 + 1 + 1 + 1 := by simp
  have k : ∀ (W : World) (i : Nat) (ob o : Obj), W.heap[i]? = some ob → (W.alloc o).heap[i]? = some ob := fun W i ob o h => by
    rw [((Below.refl _ W).alloc (Nat.le_refl _) o).block i (lt_block h)]; exact h
  refine ⟨k _ _ _ _ (k _ _ _ _ (k _ _ _ _ (k _ _ _ _ (heap_alloc_new w o0)))), ?_, ?_, ?_, ?_, ?_, by simp⟩
  · rw [← s1]; exact k _ _ _ _ (k _ _ _ _ (k _ _ _ _ (heap_alloc_new _ o1)))
  · rw [← s2]; exact k _ _ _ _ (k _ _ _ _ (heap_alloc_new _ o2))
  · rw [← s3]; exact k _ _ _ _ (heap_alloc_new _ o3)
  · rw [← s4]; exact heap_alloc_new _ o4
  · exact (((b1.alloc (by omega) o1).alloc (by omega) o2).alloc (by omega) o3).alloc (by omega) o4
theorem results_row_tmp {P : Program} {fn : Func} {p q : Tmp} {ty : TypeId} (h : fn.results = #[.cell p ty, .tmp q]) (tmps : Array Value) (w : World) (g : Nat) (t : TypeId) (cs : Array Value) (fr : Nat × Nat) (d : TypeDesc)
    (hp : tmps.getD p undef = .pointer (some ⟨g, 0, none⟩)) (hg : w.heap[g]? = some (.cells cs t fr))
    (hu : P.underlying ty = some d) (hd : (match d with | .struct _ | .array _ _ => true | _ => false) = true) (hi : (P.info? ty).map (·.size) = some cs.size) :
    (results fn tmps).run P w = .ok (.tuple #[.agg cs, tmps.getD q undef]) w := by
  have hp' : tmps[p]?.getD undef = .pointer (some ⟨g, 0, none⟩) := by simpa using hp
  rw [results_cell_tmp h]
  simp [hp', asAddr, run_loadVar_row w g t ty cs fr d hg hu hd hi, Result.andThen]
/-- What search answers. -/
def SearchR (W0 : World) (L : List Int) (C : List Int → Int) (Al : List Int → Bool) (en : Int) (e : Ending) (w' : World) : Prop :=
  (∃ s u v, e = .returned (.tuple #[.agg #[u, v], .bool s.isSome]) ∧ Below W0.heap.size W0 w' ∧ FoundQ L C Al W0.heap.size w' s u v) ∨ PanQ W0 L C Al en e w'
set_option maxRecDepth 100000 in
set_option maxHeartbeats 8000000 in
theorem search_any {en : Int} {cf : FuncId} {caps : Array Value} (n : Nat) (hn : n ≤ 7) (h1 : 1 ≤ n) (C : List Int → Int) (Al : List Int → Bool) (henb : -200000 ≤ en ∧ en ≤ 200000)
  (w : World) (hC : CostQ w (stopsL n) C Al cf caps) (hg : ∀ args w, (callFunc cf args).run Try.prog w = .ok (.enter cf args) w) :
  Calls Try.prog 62 #[.int .i64 (n : Int), .int .i64 en, .func (.func cf) #[] caps] w (SearchR w (stopsL n) C Al en) := by
  have HX := hid (alloc5 w (.cells #[.int .i64 en] 3) (.cells #[.func (.func cf) #[] caps] 83) (.cells #[.slice none 0 0, .int .i64 0] 79) (.cells #[.slice none 0 0, .int .i64 0] 79) (.cells #[.bool false] 4))
  have HT := hid (fun (W : World) (hP : SrPre w en (w.heap.size + 1 + 1 + 1 + 1) (w.heap.size + 1 + 1 + 1) w.heap.size (w.heap.size + 1) (w.heap.size + 1 + 1) cf caps W) => tryTours_any n hn h1 C Al henb hC hg W hP)
  clear hC hg
  go_enter Try.func62, Try.ntmps62
  go_wp2_with fail
  obtain ⟨x0, x1, x2, x3, x4, xb, xs⟩ := HX.out
  clear HX
  generalize (((((w.alloc (.cells #[.int .i64 en] 3)).alloc (.cells #[.func (.func cf) #[] caps] 83)).alloc (.cells #[.slice none 0 0, .int .i64 0] 79)).alloc (.cells #[.slice none 0 0, .int .i64 0] 79)).alloc (.cells #[.bool false] 4)) = w1 at *
  refine (HT.out w1 ⟨xb, x0, x1, x4, x3, by omega, by omega, by omega, x2, by omega, by omega, by omega, by omega, by omega, by omega, by omega, by omega, by omega⟩).mono ?_
  rintro e w5 (⟨rfl, hb5, s, u, v, h1, h2, h3, h4⟩ | ⟨F, c, f, rfl, h⟩)
  · have k1 := one_cell h1
    have k2 := (two_cell h2).1
    have k3 := (two_cell h2).2
    have f4 := one_free h4
    have k4 := (two_cell h4).1
    have k5 := (two_cell h4).2
    have HB := hid hb5
    have HF := hid h3
    have H4 := hid h4
    clear h1 h2 h3 h4 hb5 x0 x1 x2 x3 x4 xb HT
    obtain ⟨Fu, nu, cu, mv, rfl, rfl⟩ : ∃ (Fu : Option Addr) (nu cu : Nat) (mv : Int), u = .slice Fu nu cu ∧ v = .int .i64 mv := by
      cases s with
      | none => obtain ⟨rfl, rfl⟩ := HF.out.no rfl; exact ⟨none, 0, 0, 0, rfl, rfl⟩
      | some m => obtain ⟨F, c, f, rfl, rfl, _⟩ := HF.out.yes m rfl; exact ⟨F, f.length, c, m, rfl, rfl⟩
    generalize hss : s.isSome = ss at *
    have HSS := hid hss
    clear hss
    go_wp2_with fail
    go_region
    go_wp2
    have hk : Keep3 (w.heap.size + 1 + 1) (w.heap.size + 1 + 1) (w.heap.size + 1 + 1) w5 (((w5.setCell ⟨w.heap.size + 1 + 1, 0, none⟩ (.slice Fu nu cu)).setCell ⟨w.heap.size + 1 + 1, 1, none⟩ (.int .i64 mv)).drew) :=
      (((Keep3.refl (w.heap.size + 1 + 1) (w.heap.size + 1 + 1) (w.heap.size + 1 + 1) w5).set ⟨w.heap.size + 1 + 1, 0, none⟩ (.slice Fu nu cu) (.inl rfl)).set ⟨w.heap.size + 1 + 1, 1, none⟩ (.int .i64 mv) (.inl rfl)).trans (Keep3.of (Below.refl _ _).drew)
    have hrow : (((w5.setCell ⟨w.heap.size + 1 + 1, 0, none⟩ (.slice Fu nu cu)).setCell ⟨w.heap.size + 1 + 1, 1, none⟩ (.int .i64 mv)).drew).heap[w.heap.size + 1 + 1]? = some (.cells #[.slice Fu nu cu, .int .i64 mv] 79 (0, 0)) := two_set H4.out
    refine ⟨rfl, .tuple #[.agg #[.slice Fu nu cu, .int .i64 mv], .bool ss], results_row_tmp Try.results62 _ _ _ _ _ _ _ rfl hrow Try.underlying79 rfl (by kernel_rfl), .inl ⟨s, _, _, by rw [HSS.out], HB.out.trans (hk.below (by omega) (by omega) (by omega) (HB.out.size)), HF.out.no, fun m hm => ?_, HF.out.low⟩⟩
    obtain ⟨F, c, f, e1, e2, e3, e4, e5⟩ := HF.out.yes m hm
    have hfar : ∀ ad, F = some ad → w1.heap.size + 1 ≤ ad.block := e4
    exact ⟨F, c, f, e1, e2, e3.keep3 hk (fun ad had => by have := hfar ad had; exact ⟨by omega, by omega, by omega⟩), fun ad had => by have := hfar ad had; omega, e5⟩
  · have HH := hid h
    clear h
    go_wp2
    exact ⟨rfl, .inr ⟨F, c, f, rfl, HH.out⟩⟩
end Go.Proofs.Ytbffdpcogfmomaa
