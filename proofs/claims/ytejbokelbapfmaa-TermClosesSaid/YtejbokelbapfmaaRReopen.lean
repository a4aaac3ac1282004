/- The document's own Reopen. -/
import Derived.Test.YtejbokelbapfmaaRClose
set_option linter.unusedVariables false
namespace Go.Proofs.Ytejbokelbapfmaa
open Go.RowKit

theorem step_append_own {P : Program} {ops : Array Oper} {o : Oper} {a : Act} {w : World} {K : Act → World → Prop} {Q : Exit → Act → World → Prop} {E : Prop}
    (hg : o.guard = none) (s x : Operand) (t : TypeId) (hop : o.op = Op.call { callee := Callee.builtin Builtin.append, args := #[s, x], argTypes := #[t, t] })
    (base : Nat) (e : TypeId) (i : TypeInfo) (z : Value) (size bytes : Nat) (h1 : P.underlying t = some (.slice e)) (h2 : P.info? e = some i) (h3 : i.zero = some z) (h4 : i.size = size) (h5 : i.bytes = bytes) (h6 : z.cells.size = size) (h7 : 0 < size)
    (v : Value) (n : Nat) (xs : List Value) (hs : a.eval s = v) (hown : w.ownsRow base e size v n xs)
    (ad : Addr) (m c : Nat) (news : List Value) (hx : a.eval x = .slice (some ad) m c) (hn : news.length = m * size) (hc : ∀ j u, news[j]? = some u → w.cell? (ad.add j) = some u) (h1c : ∀ u ∈ news, u.oneCell' = true)
    (b1 : n + m ≤ maxLen) (b2 : (n + m) * bytes ≤ 140737488355328) (hbase : base ≤ w.heap.size)
    (hK : ∀ v' w', w'.ownsRow base e size v' (n + m) (xs ++ news) → w.grownBy w' v.ownBlock → K (a.put o.dst v') w') :
    if Region.wanted o (yielded ops a.tmps) = true then Oper.wp P o a w K Q else E := by
  have hw : Region.wanted o (yielded ops a.tmps) = true := by simp [Region.wanted, hg]
  rw [if_pos hw]
  obtain ⟨v', w', hrun, r1, r2, _⟩ := run_append_own (P := P) w base t o.type e i z size bytes h1 h2 h3 h4 h5 h6 h7 v n xs hown ad m c news hn hc h1c b1 b2 hbase
  unfold Oper.wp
  simp [execOp, hop, resolve, invoke, builtin, hs, hx, hrun, Result.andThen]
  exact hK v' w' r1 r2

theorem less_take (cs : List Int) (d : Int) (k : Nat) (h : k < cs.length) : lessDay (cs.take (k + 1)) d = if (cs[k]?.getD 0 != d) = true then lessDay (cs.take k) d ++ [cs[k]?.getD 0] else lessDay (cs.take k) d := by
  rw [List.take_add_one, List.getElem?_eq_getElem h, Option.toList_some, Option.getD_some, lessDay, lessDay, List.filter_append, List.filter_cons, List.filter_nil]
  split <;> simp
theorem less_len (cs : List Int) (d : Int) (k : Nat) : (lessDay (cs.take k) d).length ≤ k := by
  have := List.length_filter_le (fun x => x != d) (cs.take k)
  rw [List.length_take] at this
  rw [lessDay]; omega

set_option maxRecDepth 100000 in
set_option maxHeartbeats 8000000 in
theorem rreopen_any (L : Int) (ra : Option Addr) (rs : List Int) (rc : Nat) (ca : Option Addr) (cs : List Int) (cc : Nat) (d : Int) (w : World) (h : TermAt w L ra rs ca cs) :
  Calls Try.prog 43 #[.agg #[.int .i64 L, .slice ra rs.length rc, .slice ca cs.length cc], .int .i64 d] w (TermE w (reopenL L rs cs d)) := by
  have S0 := CopyS.made w L ra rs rc ca cs cc
  have HN := hid (risOpen_any L ra rs rc ca cs cc d _ (h.below S0.below))
  have HS0 := hid S0
  have HR := hid (show reopenL L rs cs d = if checkD L rs cs d ≠ 0 then ((0, [], []), checkD L rs cs d) else if d ∈ cs then ((L, rs, lessDay cs d), 0) else ((0, [], []), 12) from rfl)
  clear S0
  by_cases hz : checkD L rs cs d = 0
  · obtain ⟨hv, hd0, hd1⟩ := checkD_ok hz
    obtain ⟨v1, v2, v3, v4, v5, v6⟩ := validT_ok hv
    have hop : ∃ b, ropenL L rs cs d = (b, 0) := ⟨(ropenL L rs cs d).1, by rw [ropenL]; simp [hz]⟩
    obtain ⟨ob, hob⟩ := hop
    rw [hob] at HN
    have HHa := hid (fun (v : Int) (w' : World) (hb : Below w.heap.size w w') => has_any ca cc cs v w' (h.below hb).closed)
    have hcl := h.closed
    have hrl : rs.length ≤ 1000 := by
      obtain ⟨s1, s2⟩ := (sorted_iff 0 7 rs).1 v4
      exact Nat.le_trans (asc_len 7 rs s1 s2) (by omega)
    have HCp := hid (fun (w' : World) (hb : Below w.heap.size w w') => copy_any L ra rs rc ca cs cc w' (h.below hb) hrl (by omega))
    have HR2 := hid (show reopenL L rs cs d = if d ∈ cs then ((L, rs, lessDay cs d), 0) else ((0, [], []), 12) by rw [HR.out, if_neg (by simp [hz])])
    clear hz HR h v6 hv v3 v4 hd0 hd1 hob
    go_enter Try.func43, Try.ntmps43
    go_wp2_with fail
    refine HN.out.mono ?_
    rintro e w1 ⟨q1, rfl⟩
    have HS1 := hid (HS0.out.keep q1)
    obtain ⟨a0, a1, a2, b0, b1, b2, f0, f1, f2, _⟩ := HS1.out
    have HT := hid (set3_cells w1 (w.heap.size + 1) (.int .i64 0) (.slice none 0 0) (.slice none 0 0) _ _ _ b0 b1 b2)
    have HB := hid (((HS1.out.store 0 (.int .i64 0)).store 1 (.slice none 0 0)).store 2 (.slice none 0 0)).below
    clear q1 HN HS0
    go_wp2_with fail
    refine (HHa.out d _ HS1.out.below).mono ?_
    rintro e w' ⟨rfl, rfl⟩
    by_cases hm : d ∈ cs
    · have HR3 := hid (show reopenL L rs cs d = ((L, rs, lessDay cs d), 0) by rw [HR2.out, if_pos hm])
      rw [show memB d cs = true by simp [memB, hm]]
      rcases hcl.at_ with rfl | ⟨b, off, rfl, hc⟩
      · simp at hm
      have HCe := hid (fun (w' : World) (hb : Below w.heap.size w w') (i : Nat) (hi : i < cs.length) => show w'.cell? ⟨b, off + i, none⟩ = some (.int .i64 (cs[i]?.getD 0)) by rw [hb.cell (cell_lt (hc i hi))]; exact hc i hi)
      obtain ⟨i0, hi, hz0, hz1, hz2⟩ := info_parts int_info
      clear hm HR2 HT HB b0 b1 b2 f0 f1 f2 hc hcl HHa
      go_wp2_with fail
      refine (HCp.out _ HS1.out.below).mono ?_
      rintro e w2 ⟨q2, vA, vB, rfl, oA, oB⟩
      obtain ⟨A, c, rfl⟩ := own_slice oA
      obtain ⟨B, c2, rfl⟩ := own_slice oB
      have hw1 : w.heap.size + 1 < w1.heap.size := cell_lt HS1.out.2.2.2.1
      have hs2 := q2.size
      have HA2 := hid oA
      have HS2 := hid (HS1.out.keep q2)
      have p3 := (Below.refl w2.heap.size w2).alloc (Nat.le_refl _) (.cells #[.int .i64 L, .slice A rs.length c, .slice none 0 0] 24)
      have a2 : (w2.alloc (.cells #[.int .i64 L, .slice A rs.length c, .slice none 0 0] 24)).cell? ⟨w.heap.size, 2, none⟩ = some (.slice (some ⟨b, off, none⟩) cs.length cc) := (HS2.out.keep p3).2.2.1
      clear q2 oA oB HCp a0 a1
      go_wp2
      go_loopw [9] (fun i wr => ∃ (k : Nat) (v : Value), k ≤ cs.length ∧ i = .int .i64 k ∧ wr.cell? ⟨w2.heap.size, 0, none⟩ = some (.int .i64 L) ∧ wr.cell? ⟨w2.heap.size, 1, none⟩ = some (.slice A rs.length c) ∧ wr.cell? ⟨w2.heap.size, 2, none⟩ = some v ∧ wr.frozen? ⟨w2.heap.size, 2, none⟩ = false ∧
        wr.ownsRow (w2.heap.size + 1) 3 1 v (lessDay (cs.take k) d).length ((lessDay (cs.take k) d).map (Value.int .i64)) ∧ Below w2.heap.size w2 wr) (fun i _ => cs.length - (intOf i).toNat)
      case atStart => exact ⟨0, .slice none 0 0, Nat.zero_le _, rfl, by go_simp, by go_simp, by go_simp, by go_simp, ⟨rfl, .inl ⟨rfl, rfl⟩⟩, p3⟩
      case round =>
        clear p3 a2
        obtain ⟨k, v, hk, rfl, g0, g1, g2, fz, hown, hB2⟩ := hrel
        have HS := hid (HS2.out.keep hB2)
        obtain ⟨a0, a1, a2, b0, b1, b2, f0, f1, f2, _⟩ := HS.out
        have hwl : w2.heap.size < wr.heap.size := cell_lt g0
        have hw2 : w.heap.size + 1 < w2.heap.size := by omega
        by_cases hlt : k < cs.length
        · have hlen := less_len cs d k
          have he := HCe.out wr HS.out.below k hlt
          have HTs := hid (less_take cs d k hlt)
          generalize lessDay (cs.take k) d = pre at *
          generalize cs[k]?.getD 0 = x at *
          clear b0 b1 b2 f0 f1 f2 a0 a1
          by_cases hxd : (x != d) = true
          · have HT2 := hid ((HTs.out).trans (if_pos hxd))
            have k0 : (0 : Int) ≤ (k : Int) := by omega
            have k1 : (k : Int) < (cs.length : Int) := by omega
            clear HTs
            go_wp2
            go_region_law (refine step_append_own rfl _ _ 22 rfl (w2.heap.size + 1) 3 i0 (.int .i64 0) 1 8 Try.underlying22 hi hz0 hz1 hz2 rfl (by decide) v pre.length (pre.map (Value.int .i64)) (by simp [Act.eval]) (by exact hown.alloc _) ⟨wr.heap.size, 0, none⟩ 1 1 [.int .i64 x] (by simp [Act.eval]) rfl (cell_one_new _ _ _) (by simp [Value.oneCell']) (by unfold maxLen; omega) (by omega) (by simp; omega) ?_; intro v' w4 hown2 hgrow; obtain ⟨A4, c4, rfl⟩ := row_slice hown2; have q4 : Below (w2.heap.size + 1) wr w4 := ((Below.refl (w2.heap.size + 1) wr).alloc (by omega) (.cells #[.int .i64 x] 3)).drew.grown hgrow (by simp; omega) (fun q hq => by have := (hown.lt q hq).1; omega); have p4 := hB2.trans (q4.mono (by omega)); have g0' : w4.cell? ⟨w2.heap.size, 0, none⟩ = some (.int .i64 L) := (by rw [q4.cell (by simp)]; exact g0); have g1' : w4.cell? ⟨w2.heap.size, 1, none⟩ = some (.slice A rs.length c) := (by rw [q4.cell (by simp)]; exact g1); have g2' : w4.cell? ⟨w2.heap.size, 2, none⟩ = some v := (by rw [q4.cell (by simp)]; exact g2); have fz' : w4.frozen? ⟨w2.heap.size, 2, none⟩ = false := (by rw [q4.frozen (by simp)]; exact fz); have hw4 : w2.heap.size < w4.heap.size := cell_lt g0')
            all_goals
              go_wp2
              go_roundw
              case rel => exact ⟨k + 1, .slice A4 (pre.length + 1) c4, by omega, by go_num, by go_simp, by go_simp, by go_simp, by go_simp, own_setCell (by rw [HT2.out]; simpa using hown2) _ (by simp) _, p4.setCell (by simp) _⟩
              case measure => simp [intOf]; omega
          · have HT2 := hid ((HTs.out).trans (if_neg hxd))
            have hxd' : (x != d) = false := by simpa using hxd
            clear HTs hxd
            go_wp2
            go_roundw
            case rel => exact ⟨k + 1, v, by omega, by go_num, g0, g1, g2, fz, by rw [HT2.out]; exact hown, hB2⟩
            case measure => simp [intOf]; omega
        · obtain rfl : k = cs.length := by omega
          rw [List.take_length] at hown
          have HO5 := hid (show Own wr (w2.heap.size + 1) v (lessDay cs d) from hown)
          obtain ⟨B3, c3, rfl⟩ := own_slice HO5.out
          have HA5 := hid (own_below HA2.out hB2)
          obtain ⟨t0, t1, t2⟩ := set3_cells wr (w.heap.size + 1) (.int .i64 L) (.slice A rs.length c) (.slice B3 (lessDay cs d).length c3) _ _ _ b0 b1 b2
          have HB := hid (((HS.out.store 0 (.int .i64 L)).store 1 (.slice A rs.length c)).store 2 (.slice B3 (lessDay cs d).length c3)).below
          clear hown
          go_wp2
          refine bodyPost_ret (v := .tuple #[.agg #[.int .i64 L, .slice A rs.length c, .slice B3 (lessDay cs d).length c3], .int .i64 0]) (by simp [results, Try.results43, go_sem, t0, t1, t2]) rfl ⟨HB.out, A, c, B3, c3, by rw [HR3.out], ?_, ?_⟩
          · rw [HR3.out]
            exact own_weak (own_setCell (own_setCell (own_setCell HA5.out _ (by simp; omega) _) _ (by simp; omega) _) _ (by simp; omega) _) (by omega)
          · rw [HR3.out]
            exact own_weak (own_setCell (own_setCell (own_setCell HO5.out _ (by simp; omega) _) _ (by simp; omega) _) _ (by simp; omega) _) (by omega)
    · have HR3 := hid (show reopenL L rs cs d = ((0, [], []), 12) by rw [HR2.out, if_neg hm])
      rw [show memB d cs = false by simp [memB, hm]]
      obtain ⟨t0, t1, t2⟩ := HT.out
      clear hm HR2
      go_wp2
      refine bodyPost_ret (v := .tuple #[.agg #[.int .i64 0, .slice none 0 0, .slice none 0 0], .int .i64 12]) (by simp [results, Try.results43, go_sem, t0, t1, t2]) rfl ⟨HB.out, none, 0, none, 0, by rw [HR3.out]; rfl, by rw [HR3.out]; exact Own.nil _ _, by rw [HR3.out]; exact Own.nil _ _⟩
  · have HR2 := hid (show reopenL L rs cs d = ((0, [], []), checkD L rs cs d) by rw [HR.out, if_pos hz])
    have hop : ∃ b, ropenL L rs cs d = (b, checkD L rs cs d) := ⟨(ropenL L rs cs d).1, by rw [ropenL]; simp [hz]⟩
    obtain ⟨ob, hob⟩ := hop
    rw [hob] at HN
    generalize checkD L rs cs d = x at *
    have hx : (x != 0) = true := by simp [hz]
    clear hz HR hob
    go_enter Try.func43, Try.ntmps43
    go_wp2_with fail
    refine HN.out.mono ?_
    rintro e w1 ⟨q1, rfl⟩
    have HS1 := hid (HS0.out.keep q1)
    obtain ⟨a0, a1, a2, b0, b1, b2, f0, f1, f2, _⟩ := HS1.out
    obtain ⟨t0, t1, t2⟩ := set3_cells w1 (w.heap.size + 1) (.int .i64 0) (.slice none 0 0) (.slice none 0 0) _ _ _ b0 b1 b2
    have HB := hid (((HS1.out.store 0 (.int .i64 0)).store 1 (.slice none 0 0)).store 2 (.slice none 0 0)).below
    clear q1
    go_wp2
    refine bodyPost_ret (v := .tuple #[.agg #[.int .i64 0, .slice none 0 0, .slice none 0 0], .int .i64 x]) (by simp [results, Try.results43, go_sem, t0, t1, t2]) rfl ⟨HB.out, none, 0, none, 0, by rw [HR2.out]; rfl, by rw [HR2.out]; exact Own.nil _ _, by rw [HR2.out]; exact Own.nil _ _⟩
end Go.Proofs.Ytejbokelbapfmaa
