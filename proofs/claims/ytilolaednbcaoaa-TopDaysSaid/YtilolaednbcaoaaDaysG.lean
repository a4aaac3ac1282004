/- The iterators of package term, for bodies that make memory. -/
import Derived.Test.YtilolaednbcaoaaDays
import Derived.Test.YtilolaednbcaoaaIterG
set_option linter.unusedVariables false
namespace Go.Proofs.Ytilolaednbcaoaa
open Go.RowKit Go.Shelf

attribute [local go_sem] Oper.semAt_some

set_option maxRecDepth 100000 in
set_option maxHeartbeats 2000000 in
theorem weekDays_iterG (L : Int) (ra : Option Addr) (rs : List Int) (rc : Nat) (ca : Option Addr) (cs : List Int) (cc : Nat) (B : Nat) (wn w0 : World)
  (h : TermAt wn L ra rs ca cs) (hv : validT L rs cs = 0) (hB : wn.heap.size ≤ B) (hb : ∀ b, b < wn.heap.size → w0.heap[b]? = wn.heap[b]?)
  (c0 : w0.cell? ⟨B, 0, none⟩ = some (.int .i64 L)) (c1 : w0.cell? ⟨B, 1, none⟩ = some (.slice ra rs.length rc)) (c2 : w0.cell? ⟨B, 2, none⟩ = some (.slice ca cs.length cc)) :
  IterG Try.prog 66 #[.pointer (some ⟨B, 0, none⟩)] (fun x : Int × Bool => #[.int .i64 x.1, .bool x.2]) (wd rs cs L.toNat) (fun b => b = B ∨ b < wn.heap.size) w0 := by
  intro l M J Jx W hM hVM hVW hJ hJx hY h0
  have hok := validT_ok hv
  have hL1 := hok.1
  have hL2 := hok.2.1
  have HA := hid (isSetFrom_asc _ _ _ hok.2.2.2.2.2)
  obtain ⟨n, rfl⟩ : ∃ n : Nat, L = n := ⟨L.toNat, by omega⟩
  clear hv hok
  -- what the iterator reads, in any world that keeps V
  have key : ∀ W1 : World, (∀ b, (b = B ∨ b < wn.heap.size) → W1.heap[b]? = w0.heap[b]?) →
      W1.cell? ⟨B, 0, none⟩ = some (.int .i64 (n : Int)) ∧ W1.cell? ⟨B, 1, none⟩ = some (.slice ra rs.length rc) ∧ W1.cell? ⟨B, 2, none⟩ = some (.slice ca cs.length cc) ∧ TermAt W1 (n : Int) ra rs ca cs := fun W1 h1 =>
    ⟨by rw [World.cell?_of_block (w := w0) (h1 B (.inl rfl))]; exact c0, by rw [World.cell?_of_block (w := w0) (h1 B (.inl rfl))]; exact c1, by rw [World.cell?_of_block (w := w0) (h1 B (.inl rfl))]; exact c2,
     h.same (fun b hlt => by rw [h1 b (.inr hlt)]; exact hb b hlt)⟩
  have HK := hid key
  have HVW := hid hVW
  obtain ⟨k0, k1, k2, hT⟩ := key W hVW
  clear key hVW
  refine callsIn_of_wp Try.func66 rfl trivial ?_ rfl
  simp only [Try.ntmps66, List.size_toArray, List.length_cons, List.length_nil, Nat.reduceAdd, Nat.reduceSub, Array.replicate_succ, Array.replicate_zero, List.push_toArray, List.append_toArray, List.nil_append, List.cons_append]
  gi_wp2
  gi_loopw [8] (fun i wr => ∃ k : Nat, k ≤ n ∧ i = .int .i64 k ∧ Hid (J W.heap.size (wd rs cs k) wr) ∧ W.heap.size ≤ wr.heap.size ∧ Hid (∀ b, (b = B ∨ b < wn.heap.size) → wr.heap[b]? = w0.heap[b]?)) (fun i _ => n - (intOf i).toNat)
  case atStart => exact ⟨0, Nat.zero_le _, rfl, h0 W (Below.refl _ _), Nat.le_refl _, HVW.out⟩
  case round =>
    clear k0 k1 k2 hT
    obtain ⟨k, hk, rfl, HJ, hMr, HV⟩ := hrel
    obtain ⟨k0, k1, k2, hT⟩ := HK.out wr HV.out
    by_cases hlt : k < n
    · cases hm : memB ((k : Int) % 7) rs with
      | true =>
        have HN := hid (show wd rs cs (k + 1) = wd rs cs k by rw [wd, hm]; simp)
        gi_wp2_with fail
        refine ⟨trivial, rfl, ?_⟩
        refine (callsIn_wide.2 (contains_any _ _ _ _ _ hT.rest)).mono ?_
        rintro e w' ⟨rfl, rfl⟩
        rw [hm]
        gi_wp2
        go_roundw
        case rel => exact ⟨k + 1, by omega, by go_num, by unfold Hid; rw [HN.out]; exact HJ.out, hMr, HV⟩
        case measure => simp [intOf]; omega
      | false =>
        have hsuf := wd_suffix rs cs k n hlt hm
        have HN := hid (show wd rs cs (k + 1) = wd rs cs k ++ [((k : Int), !memB (k : Int) cs)] by rw [wd, hm]; simp)
        obtain ⟨fn, tmps, assign, body, hy, hR⟩ := hY W.heap.size (wd rs cs k) ((k : Int), !memB (k : Int) cs) wr hM hMr hsuf HJ.out
        dsimp only at hy hR
        cases hc : memB (k : Int) cs
        all_goals
          rw [hc] at hy hR HN
          simp only [Bool.not_true, Bool.not_false] at hy hR HN
          gi_wp2_with fail
          refine ⟨trivial, rfl, ?_⟩
          refine (callsIn_wide.2 (contains_any _ _ _ _ _ hT.rest)).mono ?_
          rintro e w' ⟨rfl, rfl⟩
          rw [hm]
          gi_wp2_with fail
          refine ⟨trivial, rfl, ?_⟩
          refine (callsIn_wide.2 (bsearch_any _ _ _ _ _ hT.closed HA.out)).mono ?_
          rintro e w' ⟨rfl, i, hi, hbs, rfl⟩
          rw [hc]
          gi_wp2_with fail
          refine ⟨rfl, hR.mono ?_⟩
          rintro e W' ⟨hk', ⟨rfl, hJ'⟩ | ⟨rfl, hJx'⟩⟩
          · gi_wp2
            go_roundw
            case rel =>
              exact ⟨k + 1, by omega, by go_num, by unfold Hid; rw [HN.out]; exact hJ', Nat.le_trans hMr hk'.size, fun b hb =>
                (hk'.block b (Nat.lt_of_lt_of_le (hVM b hb) (Nat.le_trans hM hMr)) (fun hh => by rcases hh with hh | hh; exact hh.2 hb; have := hVM b hb; omega)).trans (HV.out b hb)⟩
            case measure => simp [intOf]; omega
          · gi_wp2
            refine bodyPost_ret (results_none rfl _ _ _) rfl ?_
            refine ⟨⟨_, rfl⟩, W.heap.size, hM, Nat.le_trans hMr hk'.size, .inr ⟨_, ?_, hJx'⟩⟩
            rw [← HN.out]
            exact wd_prefix rs cs (k + 1) n (by omega)
    · obtain rfl : k = n := by omega
      gi_wp2
      go_end0
      exact ⟨⟨_, rfl⟩, W.heap.size, hM, hMr, .inl HJ.out⟩

set_option maxRecDepth 100000 in
set_option maxHeartbeats 2000000 in
theorem menus_iterG (L : Int) (ra : Option Addr) (rs : List Int) (rc : Nat) (ca : Option Addr) (cs : List Int) (cc : Nat) (m f k : Int) (Bc Bt : Nat) (wn w0 : World)
  (h : TermAt wn L ra rs ca cs) (hv : validT L rs cs = 0) (hvc : badC m f k = false) (hBt : wn.heap.size ≤ Bt) (hBc : wn.heap.size ≤ Bc) (hb : ∀ b, b < wn.heap.size → w0.heap[b]? = wn.heap[b]?)
  (c0 : w0.cell? ⟨Bt, 0, none⟩ = some (.int .i64 L)) (c1 : w0.cell? ⟨Bt, 1, none⟩ = some (.slice ra rs.length rc)) (c2 : w0.cell? ⟨Bt, 2, none⟩ = some (.slice ca cs.length cc))
  (e0 : w0.cell? ⟨Bc, 0, none⟩ = some (.int .i64 m)) (e1 : w0.cell? ⟨Bc, 1, none⟩ = some (.int .i64 f)) (e2 : w0.cell? ⟨Bc, 2, none⟩ = some (.int .i64 k)) :
  IterG Try.prog 64 #[.pointer (some ⟨Bc, 0, none⟩), .pointer (some ⟨Bt, 0, none⟩)] (fun x : Int × Int => #[.int .i64 x.1, .int .i64 x.2]) (mst m k f (wd rs cs L.toNat)).2 (fun b => b = Bc ∨ b = Bt ∨ b < wn.heap.size) w0 := by
  intro l M J Jx W hM hVM hVW hJ hJx hY h0
  have hok := validC_ok hvc
  have HC := hid hok
  have HV := hid hVW
  have hMt := hVM Bt (.inr (.inl rfl))
  have hMc := hVM Bc (.inl rfl)
  have hts : Bt < W.heap.size := by omega
  have hcs : Bc < W.heap.size := by omega
  have hlt : ∀ {p : Addr} {v : Value}, w0.cell? p = some v → (p.block = Bc ∨ p.block = Bt ∨ p.block < wn.heap.size) → W.cell? p = some v := fun {p v} hc hp => by
    rw [World.cell?_of_block (w := w0) (hVW p.block hp)]; exact hc
  have k0 := hlt c0 (.inr (.inl rfl))
  have k1 := hlt c1 (.inr (.inl rfl))
  have k2 := hlt c2 (.inr (.inl rfl))
  have g0 := hlt e0 (.inl rfl)
  have g1 := hlt e1 (.inl rfl)
  have g2 := hlt e2 (.inl rfl)
  clear hlt c0 c1 c2 e0 e1 e2 hVW hok
  refine callsIn_of_wp_marks Try.func64 rfl trivial ?_ rfl
  simp only [Try.ntmps64, List.size_toArray, List.length_cons, List.length_nil, Nat.reduceAdd, Nat.reduceSub, Array.replicate_succ, Array.replicate_zero, List.push_toArray, List.append_toArray, List.nil_append, List.cons_append]
  gi_wp2_with fail
  refine ⟨trivial, rfl, ?_⟩
  refine (callsIn_wide.2 (weekDays_any _ _ _ _)).mono ?_
  rintro e w' ⟨rfl, rfl⟩
  gi_wp2_with fail
  have q1 := Below.alloc (Below.alloc (Below.alloc (Below.refl W.heap.size W) (Nat.le_refl _) (.cells #[Value.func (Fn.yield l) #[] #[]] 88)) (by simp) (.cells #[.int .i64 f] 3)) (by simp; omega) (.cells #[.int .i64 L, .slice ra rs.length rc, .slice ca cs.length cc] 24)
  have y0 : ((((W.alloc (.cells #[Value.func (Fn.yield l) #[] #[]] 88)).alloc (.cells #[.int .i64 f] 3)).alloc (.cells #[.int .i64 L, .slice ra rs.length rc, .slice ca cs.length cc] 24))).cell? ⟨W.heap.size, 0, none⟩ = some (.func (Fn.yield l) #[] #[]) := by go_simp
  have y1 : ((((W.alloc (.cells #[Value.func (Fn.yield l) #[] #[]] 88)).alloc (.cells #[.int .i64 f] 3)).alloc (.cells #[.int .i64 L, .slice ra rs.length rc, .slice ca cs.length cc] 24))).cell? ⟨W.heap.size + 1, 0, none⟩ = some (.int .i64 f) := by go_simp
  have y2 : ((((W.alloc (.cells #[Value.func (Fn.yield l) #[] #[]] 88)).alloc (.cells #[.int .i64 f] 3)).alloc (.cells #[.int .i64 L, .slice ra rs.length rc, .slice ca cs.length cc] 24))).frozen? ⟨W.heap.size + 1, 0, none⟩ = false := by go_simp
  have z0 : ((((W.alloc (.cells #[Value.func (Fn.yield l) #[] #[]] 88)).alloc (.cells #[.int .i64 f] 3)).alloc (.cells #[.int .i64 L, .slice ra rs.length rc, .slice ca cs.length cc] 24))).cell? ⟨W.heap.size + 1 + 1, 0, none⟩ = some (.int .i64 L) := by go_simp
  have z1 : ((((W.alloc (.cells #[Value.func (Fn.yield l) #[] #[]] 88)).alloc (.cells #[.int .i64 f] 3)).alloc (.cells #[.int .i64 L, .slice ra rs.length rc, .slice ca cs.length cc] 24))).cell? ⟨W.heap.size + 1 + 1, 1, none⟩ = some (.slice ra rs.length rc) := by go_simp
  have z2 : ((((W.alloc (.cells #[Value.func (Fn.yield l) #[] #[]] 88)).alloc (.cells #[.int .i64 f] 3)).alloc (.cells #[.int .i64 L, .slice ra rs.length rc, .slice ca cs.length cc] 24))).cell? ⟨W.heap.size + 1 + 1, 2, none⟩ = some (.slice ca cs.length cc) := by go_simp
  have hsz : ((((W.alloc (.cells #[Value.func (Fn.yield l) #[] #[]] 88)).alloc (.cells #[.int .i64 f] 3)).alloc (.cells #[.int .i64 L, .slice ra rs.length rc, .slice ca cs.length cc] 24))).heap.size = W.heap.size + 1 + 1 + 1 := by simp
  obtain ⟨wr, hwr⟩ : ∃ wr, ((((W.alloc (.cells #[Value.func (Fn.yield l) #[] #[]] 88)).alloc (.cells #[.int .i64 f] 3)).alloc (.cells #[.int .i64 L, .slice ra rs.length rc, .slice ca cs.length cc] 24))) = wr := ⟨_, rfl⟩
  rw [hwr] at q1 y0 y1 y2 z0 z1 z2 hsz ⊢
  have hwnW : wn.heap.size ≤ M := by
    rcases Nat.lt_or_ge M wn.heap.size with hh | hh
    · have := hVM M (.inr (.inr hh)); omega
    · exact hh
  refine wpIn_rangeG (gf := 66) (lb := #[.pointer (some ⟨W.heap.size + 1 + 1, 0, none⟩)]) rfl (enters_of Try.func66 (by kernel_rfl) rfl)
    (weekDays_iterG L ra rs rc ca cs cc (W.heap.size + 1 + 1) wn wr h hv (by omega) (fun b hlt => by rw [q1.block b (by omega), HV.out b (.inr (.inr hlt)), hb b hlt]) z0 z1 z2)
    (fun b hh => by omega) (fun b _ => rfl) (fun _ => rfl)
    (fun M' pre W1 => M' ≤ W1.heap.size ∧ J M' (mst m k f pre).2 W1 ∧ W1.cell? ⟨W.heap.size + 1, 0, none⟩ = some (.int .i64 (mst m k f pre).1) ∧ W1.frozen? ⟨W.heap.size + 1, 0, none⟩ = false ∧ W1.cell? ⟨W.heap.size, 0, none⟩ = some (.func (Fn.yield l) #[] #[]) ∧
      W1.cell? ⟨Bc, 0, none⟩ = some (.int .i64 m) ∧ W1.cell? ⟨Bc, 2, none⟩ = some (.int .i64 k))
    (fun M' c pre W1 => M' ≤ W1.heap.size ∧ c = .ret ∧ ∃ q, q <+: (mst m k f (wd rs cs L.toNat)).2 ∧ Jx M' q W1) ?hI ?hIx ?h0 ?round ?done ?stop
  case hI =>
    rintro M' p A B hM' ⟨i0, hj, i1, i2, i3, i4, i5⟩ hK
    exact ⟨Nat.le_trans i0 hK.size, hJ _ _ _ _ hj (hK.weak (fun b _ hh => ⟨by have := hh.1; omega, hh.2⟩)), hK.cell i1 (by simp; omega), by rw [hK.frozen (cell_lt i1) (by simp; omega)]; exact i2, hK.cell i3 (by simp; omega), hK.cell i4 (by simp; omega), hK.cell i5 (by simp; omega)⟩
  case hIx =>
    rintro M' c p A B hM' ⟨i0, hc, q, hq, hj⟩ hK
    exact ⟨Nat.le_trans i0 hK.size, hc, q, hq, hJx _ _ _ _ hj (hK.weak (fun b _ hh => ⟨by have := hh.1; omega, hh.2⟩))⟩
  case h0 =>
    intro W1 hb1 hs1
    have q2 : Below W.heap.size W W1 := q1.trans (hb1.mono (by omega))
    exact ⟨Nat.le_refl _, h0 W1 (q2.mono (by omega)), by rw [hb1.cell (by simp; omega)]; exact y1, by rw [hb1.frozen (by simp; omega)]; exact y2, by rw [hb1.cell (by simp; omega)]; exact y0, by rw [q2.cell (by simp; omega)]; exact g0, by rw [q2.cell (by simp; omega)]; exact g2⟩
  case round =>
    rintro l' M' pre ⟨d, op⟩ W1 hM1 hM2 hsuf hs1 ⟨i0, hj, i1, i2, i3, i4, i5⟩ Wa K hK
    cases op with
    | false =>
      have hbd := mst_bd m k f HC.out.1 HC.out.2.2.1 HC.out.2.2.2.1 pre
      have hm1 := HC.out.1
      have hm2 := HC.out.2.1
      have HQ := hid (mst_snoc m k f pre (d, false))
      by_cases hk1 : k = 1
      · subst hk1
        gi_wp2_with fail
        refine ⟨fun _ h => (by cases h), ?_⟩
        gi_wp2
        refine ⟨(Keeps.refl _ W1).setCell (.inl (.inl ⟨by simp; omega, by simp; omega⟩)) _, ?_⟩
        dsimp only
        rw [HQ.out]
        have hcw := World.cell?_setCell_same' W1 ⟨W.heap.size + 1, 0, none⟩ (.int .i64 (((mst m 1 f pre).1 + 1) % m)) (by rw [i1]; rfl)
        refine ⟨by simpa using i0, ?_, ?_, by rw [World.frozen?_setCell]; exact i2, ?_, ?_, ?_⟩
        · simp only [stepM]
          exact hJ _ _ _ _ hj ((Keeps.refl _ W1).setCell (.inl (by show M ≤ W.heap.size + 1 ∧ W.heap.size + 1 < M'; omega)) _)
        · simpa [stepM] using hcw
        all_goals go_simp
      · have hk1' : (k == 1) = false := by simp [hk1]
        have HN := hid hk1
        clear hk1
        gi_wp2_with fail
        refine ⟨fun _ h => (by cases h), ?_⟩
        gi_wp2
        refine ⟨Keeps.refl _ W1, ?_⟩
        dsimp only
        rw [HQ.out]
        have e1 : stepM m k (mst m k f pre) (d, false) = mst m k f pre := by simp [stepM, HN.out]
        rw [e1]
        exact ⟨i0, hj, i1, i2, i3, i4, i5⟩
    | true =>
      obtain ⟨suf, hsuf⟩ := hsuf
      have hs2 := mst_suffix m k f pre d suf
      rw [← hsuf] at hs2
      have hbd := mst_bd m k f HC.out.1 HC.out.2.2.1 HC.out.2.2.2.1 pre
      have hm1 := HC.out.1
      have hm2 := HC.out.2.1
      have HQ := hid (mst_snoc m k f pre (d, true))
      obtain ⟨fn, tmps, assign, body, hy, hR⟩ := hY M' (mst m k f pre).2 (d, (mst m k f pre).1) W1 (by omega) hM2 hs2 hj
      have hR' : RoundIn (Fence.wide.inRound l') 0 Try.prog l fn tmps assign body W1 _ := hR
      clear hR
      dsimp only at hy
      gi_wp2_with fail
      refine ⟨rfl, hR'.mono ?_⟩
      rintro e W2 ⟨hk2, ⟨rfl, hJ2⟩ | ⟨rfl, hJx2⟩⟩
      · have j1 := hk2.cell i1 (by intro hh; simp at hh; omega)
        have j2 : W2.frozen? ⟨W.heap.size + 1, 0, none⟩ = false := by rw [hk2.frozen (cell_lt i1) (by intro hh; simp at hh; omega)]; exact i2
        have j3 := hk2.cell i3 (by intro hh; simp at hh; omega)
        have j4 := hk2.cell i4 (by intro hh; simp at hh; omega)
        have j5 := hk2.cell i5 (by intro hh; simp at hh; omega)
        have hsz2 := hk2.size
        gi_wp2
        have hkw : Keeps (fun b => (b < wr.heap.size ∧ ¬(b = W.heap.size + 1 + 1 ∨ b < wn.heap.size)) ∨ M' ≤ b) W1 W2 := hk2.weak (fun b _ hh => by rcases hh with hh | hh; exact .inl ⟨by have := hh.1; omega, by have := hh.1; have := hh.2; omega⟩; exact .inr hh)
        refine ⟨hkw.setCell (.inl (.inl ⟨by simp; omega, by simp; omega⟩)) _, ?_⟩
        dsimp only
        rw [HQ.out]
        have hcw := World.cell?_setCell_same' W2 ⟨W.heap.size + 1, 0, none⟩ (.int .i64 (((mst m k f pre).1 + 1) % m)) (by rw [j1]; rfl)
        refine ⟨by have := hk2.size; simp [World.setCell]; omega, ?_, ?_, by rw [World.frozen?_setCell]; exact j2, ?_, ?_, ?_⟩
        · simp only [stepM]
          exact hJ _ _ _ _ hJ2 ((Keeps.refl _ W2).setCell (.inl (by show M ≤ W.heap.size + 1 ∧ W.heap.size + 1 < M'; omega)) _)
        · simpa [stepM] using hcw
        all_goals go_simp
      · gi_wp2
        have hkw : Keeps (fun b => (b < wr.heap.size ∧ ¬(b = W.heap.size + 1 + 1 ∨ b < wn.heap.size)) ∨ M' ≤ b) W1 W2 := hk2.weak (fun b _ hh => by rcases hh with hh | hh; exact .inl ⟨by have := hh.1; omega, by have := hh.1; have := hh.2; omega⟩; exact .inr hh)
        refine ⟨hkw, by have := hk2.size; omega, rfl, _, ?_, hJx2⟩
        obtain ⟨t, ht⟩ := hs2
        exact ⟨t, by rw [ht]; simp⟩
  case done =>
    rintro M' W1 hM1 hs1 ⟨i0, hj, _⟩ hD
    gi_wp2
    refine ⟨by simp, .inl ⟨_, _, rfl, run_takeDeferred hD, ?_⟩⟩
    refine ⟨_, results_none rfl _ _ _, ⟨_, rfl⟩, M', by omega, by simpa using i0, .inl ?_⟩
    exact hJ _ _ _ _ hj ((Keeps.refl _ W1).putObj (.inl (by show M ≤ _ ∧ _ < M'; omega)) _)
  case stop =>
    rintro M' c pre W1 hM1 hs1 hpre ⟨i0, rfl, q, hq, hj⟩ hD
    gi_wp2
    refine ⟨by simp, .inl ⟨_, _, rfl, run_takeDeferred hD, ?_⟩⟩
    refine ⟨_, results_none rfl _ _ _, ⟨_, rfl⟩, M', by omega, by simpa using i0, .inr ⟨q, hq, ?_⟩⟩
    exact hJx _ _ _ _ hj ((Keeps.refl _ W1).putObj (.inl (by show M ≤ _ ∧ _ < M'; omega)) _)

end Go.Proofs.Ytilolaednbcaoaa
