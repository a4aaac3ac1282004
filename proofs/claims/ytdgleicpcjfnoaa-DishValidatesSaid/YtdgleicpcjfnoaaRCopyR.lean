/- The document's CopyRules. -/
import Derived.Test.YtdgleicpcjfnoaaRCopyB
import Derived.Test.YtdgleicpcjfnoaaTakeD
set_option linter.unusedVariables false
set_option linter.unusedSimpArgs false
namespace Go.Proofs.Ytdgleicpcjfnoaa
open Go.RowKit

theorem rule_info : (Try.prog.info? 55).map (fun i => (i.zero, i.size, i.bytes)) = some (some (.agg #[.slice none 0 0, .int .i64 0]), 2, 32) := by kernel_rfl
theorem take_snoc {α : Type} (l : List α) (d : α) (k : Nat) (h : k < l.length) : l.take (k + 1) = l.take k ++ [l[k]?.getD d] := by
  rw [List.take_add_one, List.getElem?_eq_getElem h]; simp
theorem RowR.rows {w : World} {base : Nat} {rls : List RuleL} {v : Value} (h : RowR w base rls v) {wx : World} (hb : Below w.heap.size w wx) : ∃ cl : List Value, cl.length = rls.length * 2 ∧ wx.ownsRow base 55 2 v rls.length cl ∧ Hid (∀ i, i < rls.length → ∃ A c, cl[i * 2]? = some (.slice A (rls[i]?.getD ([], 0)).1.length c) ∧ cl[i * 2 + 1]? = some (.int .i64 (rls[i]?.getD ([], 0)).2) ∧ Ints wx A (rls[i]?.getD ([], 0)).1 ∧ ApartV A (rls[i]?.getD ([], 0)).1 v ∧ FarV base A (rls[i]?.getD ([], 0)).1) := by
  obtain ⟨cl, h1, h2⟩ := h
  refine ⟨cl, h1.1, own_below h1 hb, fun i hi => ?_⟩
  obtain ⟨A, c, e1, e2, e3, e4⟩ := h2 i hi
  exact ⟨A, c, e1, e2, e3.below hb, e4⟩
theorem own_apart {w wr : World} {base n : Nat} {v : Value} {cl : List Value} {k c : Nat} {A : Option Addr} {xs : List Int} (h : Own w n (.slice A xs.length c) xs) (hr : wr.ownsRow base 55 2 v k cl) (hn : wr.heap.size ≤ n) : ApartV A xs v := by
  by_cases hx : xs = []
  · exact .inl hx
  · refine .inr (fun p hp hv => ?_)
    obtain ⟨b, hA, hb, _⟩ := h.cellsB 0 (List.length_pos_iff.2 hx)
    rw [hp] at hA
    have := (hr.lt p.block hv).2
    have hpb := Option.some.inj hA
    rw [hpb] at this
    simp only at this
    omega

theorem own_far {w : World} {base n : Nat} {c : Nat} {A : Option Addr} {xs : List Int} (h : Own w n (.slice A xs.length c) xs) (hn : base ≤ n) : FarV base A xs := by
  by_cases hx : xs = []
  · exact .inl hx
  · refine .inr (fun p hp => ?_)
    obtain ⟨b, hA, hb, _⟩ := h.cellsB 0 (List.length_pos_iff.2 hx)
    rw [hp] at hA
    rw [Option.some.inj hA]
    exact Nat.le_trans hn hb
theorem own_same_or {v : Value} {g n c H : Nat} (h : v.ownBlock = some g ∨ g = H) : (Value.slice (some ⟨g, 0, none⟩) n c).ownBlock = v.ownBlock ∨ (Value.slice (some ⟨g, 0, none⟩) n c).ownBlock = some H := by
  rcases h with e | e
  · exact .inl e.symm
  · exact .inr (by rw [← e]; rfl)

set_option maxRecDepth 100000 in
set_option maxHeartbeats 4000000 in
theorem copyRules_any (a : Option Addr) (rls : List RuleL) (cap : Nat) (w : World) (h : RulesAt w a rls) (hl : rls.length ≤ 1000) (hls : ∀ i, i < rls.length → (rls[i]?.getD ([], 0)).1.length ≤ 1000) :
  Calls Try.prog 45 #[.slice a rls.length cap] w (fun en w' => Below w.heap.size w w' ∧ ∃ A c, en = .returned (.slice A rls.length c) ∧ ∀ w'', SameAbove w.heap.size w' w'' → RulesAt w'' A rls) := by
  obtain ⟨i0, hinf, hz0, hz1, hz2⟩ := info_parts rule_info
  have HA := hid h
  have HLs := hid hls
  clear h hls
  go_enter Try.func45, Try.ntmps45
  go_wp2
  go_loopw [3, 4] (fun v i wr => ∃ k : Nat, k ≤ rls.length ∧ i = .int .i64 k ∧ Hid (RowR wr w.heap.size (rls.take k) v) ∧ Below w.heap.size w wr) (fun _ i _ => rls.length - (intOf i).toNat)
  case atStart => exact ⟨0, Nat.zero_le _, rfl, RowR.nil _ _, Below.refl _ _⟩
  case round =>
    obtain ⟨k, hk, rfl, HRow, hB⟩ := hrel
    by_cases hlt : k < rls.length
    · rcases (HA.out).at_ with e | ⟨b, off, rfl, hc⟩
      · rw [e] at hlt; simp at hlt
      obtain ⟨A, c, c0, c1, hI, hbd⟩ := hc k hlt
      have hxl := HLs.out k hlt
      have HTk := hid (take_snoc rls ([], 0) k hlt)
      have hkl : (rls.take k).length = k := by rw [List.length_take]; omega
      have hlk : (k : Int) < (rls.length : Int) := by omega
      have hk0 : (0 : Int) ≤ (k : Int) := by omega
      clear hc
      generalize rls[k]?.getD ([], 0) = r at *
      obtain ⟨xs, t⟩ := r
      dsimp only at c0 c1 hI hbd hxl
      have HI := hid (fun (w' : World) (hb : Below w.heap.size w w') => hI.below hb)
      have hbl := cell_lt c0
      have hbl1 := cell_lt c1
      have HKp := hid (fun (w' : World) (hb : Below w.heap.size w w') => (show w'.cell? ⟨b, off + k * 2, none⟩ = some (.slice A xs.length c) ∧ w'.cell? ⟨b, off + k * 2 + 1, none⟩ = some (.int .i64 t) ∧ Below w.heap.size w w' from ⟨by rw [hb.cell hbl]; exact c0, by rw [hb.cell hbl1]; exact c1, hb⟩))
      clear hI c0 c1
      generalize htk : rls.take k = pre at *
      go_wp2
      refine wp_region_held_drew (S := (fun w' => w'.cell? ⟨b, off + k * 2, none⟩ = some (.slice A xs.length c) ∧ w'.cell? ⟨b, off + k * 2 + 1, none⟩ = some (.int .i64 t) ∧ Below w.heap.size w w')) (by kernel_rfl) (HKp.out _ hB.drew) (fun hHeld => ?_)
      refine take_d (i := 0) (d := some 11) (v := ?_) rfl rfl (by kernel_rfl) (by kernel_rfl) (by kernel_rfl) (fun _ _ _ h => h) (Or.inl ⟨by first | rfl | (simp [*, Region.wanted, yielded]), ?hy0⟩) (by assumption) ?rest0
      case hy0 => (intro w hSw; (try dsimp only at hSw); go_simp <;> with_reducible rfl)
      try simp only [Act.put, List.setIfInBounds_toArray, List.set_cons_zero, List.set_cons_succ]
      refine take_d (i := 1) (d := some 12) (v := ?_) rfl rfl (by kernel_rfl) (by kernel_rfl) (by kernel_rfl) (fun _ _ _ h => h) (Or.inl ⟨by first | rfl | (simp [*, Region.wanted, yielded]), ?hy1⟩) (by assumption) ?rest1
      case hy1 => (intro w hSw; (try dsimp only at hSw); go_simp <;> with_reducible rfl)
      try simp only [Act.put, List.setIfInBounds_toArray, List.set_cons_zero, List.set_cons_succ]
      refine take_d (i := 2) (d := some 13) (v := ?_) rfl rfl (by kernel_rfl) (by kernel_rfl) (by kernel_rfl) (fun _ _ _ h => h) (Or.inl ⟨by first | rfl | (simp [*, Region.wanted, yielded]), ?hy2⟩) (by assumption) ?rest2
      case hy2 => (intro w hSw; (try dsimp only at hSw); go_simp <;> with_reducible rfl)
      try simp only [Act.put, List.setIfInBounds_toArray, List.set_cons_zero, List.set_cons_succ]
      refine take_d (i := 3) (d := some 14) (v := ?_) rfl rfl (by kernel_rfl) (by kernel_rfl) (by kernel_rfl) (fun _ _ _ h => h) (Or.inl ⟨by first | rfl | (simp [*, Region.wanted, yielded]), ?hy3⟩) (by assumption) ?rest3
      case hy3 => (intro w hSw; (try dsimp only at hSw); go_simp <;> with_reducible rfl)
      try simp only [Act.put, List.setIfInBounds_toArray, List.set_cons_zero, List.set_cons_succ]
      refine take_d (i := 4) (d := some 15) (v := ?_) rfl rfl (by kernel_rfl) (by kernel_rfl) (by kernel_rfl) (fun _ _ _ h => h) (Or.inl ⟨by first | rfl | (simp [*, Region.wanted, yielded]), ?hy4⟩) (by assumption) ?rest4
      case hy4 => (intro w hSw; (try dsimp only at hSw); go_simp <;> with_reducible rfl)
      try simp only [Act.put, List.setIfInBounds_toArray, List.set_cons_zero, List.set_cons_succ]
      refine take_d (i := 5) (d := some 16) (v := ?_) rfl rfl (by kernel_rfl) (by kernel_rfl) (by kernel_rfl) (fun _ _ _ h => h) (Or.inl ⟨by first | rfl | (simp [*, Region.wanted, yielded]), ?hy5⟩) (by assumption) ?rest5
      case hy5 => (intro w hSw; (try dsimp only at hSw); go_simp <;> with_reducible rfl)
      try simp only [Act.put, List.setIfInBounds_toArray, List.set_cons_zero, List.set_cons_succ]
      refine take_d (i := 7) (d := some 18) (v := ?_) rfl rfl (by kernel_rfl) (by kernel_rfl) (by kernel_rfl) (fun _ _ _ h => h) (Or.inl ⟨by first | rfl | (simp [*, Region.wanted, yielded]), ?hy7⟩) (by assumption) ?rest7
      case hy7 => (intro w hSw; (try dsimp only at hSw); go_simp <;> with_reducible rfl)
      try simp only [Act.put, List.setIfInBounds_toArray, List.set_cons_zero, List.set_cons_succ]
      refine take_d (i := 8) (d := some 19) (v := ?_) rfl rfl (by kernel_rfl) (by kernel_rfl) (by kernel_rfl) (fun _ _ _ h => h) (Or.inl ⟨by first | rfl | (simp [*, Region.wanted, yielded]), ?hy8⟩) (by assumption) ?rest8
      case hy8 => (intro w hSw; (try dsimp only at hSw); go_simp <;> with_reducible rfl)
      try simp only [Act.put, List.setIfInBounds_toArray, List.set_cons_zero, List.set_cons_succ]
      refine take_d (i := 9) (d := some 20) (v := ?_) rfl rfl (by kernel_rfl) (by kernel_rfl) (by kernel_rfl) (fun _ _ _ h => h) (Or.inl ⟨by first | rfl | (simp [*, Region.wanted, yielded]), ?hy9⟩) (by assumption) ?rest9
      case hy9 => (intro w hSw; (try dsimp only at hSw); go_simp <;> with_reducible rfl)
      try simp only [Act.put, List.setIfInBounds_toArray, List.set_cons_zero, List.set_cons_succ]
      refine take_d (i := 10) (d := some 21) (v := ?_) rfl rfl (by kernel_rfl) (by kernel_rfl) (by kernel_rfl) (fun _ _ _ h => h) (Or.inl ⟨by first | rfl | (simp [*, Region.wanted, yielded]), ?hy10⟩) (by assumption) ?rest10
      case hy10 => (intro w hSw; (try dsimp only at hSw); go_simp <;> with_reducible rfl)
      try simp only [Act.put, List.setIfInBounds_toArray, List.set_cons_zero, List.set_cons_succ]
      refine take_d (i := 11) (d := some 22) (v := ?_) rfl rfl (by kernel_rfl) (by kernel_rfl) (by kernel_rfl) (fun _ _ _ h => h) (Or.inl ⟨by first | rfl | (simp [*, Region.wanted, yielded]), ?hy11⟩) (by assumption) ?rest11
      case hy11 => (intro w hSw; (try dsimp only at hSw); go_simp <;> with_reducible rfl)
      try simp only [Act.put, List.setIfInBounds_toArray, List.set_cons_zero, List.set_cons_succ]
      refine wpAnyH_ready (rs := [6]) (by kernel_rfl) (by simp) ?_
      refine AllReadyH.cons (o := _) rfl (fun K hK => ?_) AllReadyH.nil
      go_simp
      refine (copyInts_sl A xs c _ (HI.out _ hB.drew) (by omega)).mono ?_
      rintro en w5 ⟨hb5, A5, c5, rfl, hown5'⟩
      have hown5 := hid hown5'
      have p5 : Below w.heap.size w w5 := hB.drew.trans (hb5.mono hB.drew.size)
      have HB5 := hid (show Below wr.heap.size wr w5 from (Below.refl _ wr).drew.trans hb5)
      clear hown5' hb5
      go_wp2_with fail
      refine hK.out _ _ (HKp.out _ p5) (fun hHeld => ?_)
      clear hK K
      try simp only [Act.put, List.setIfInBounds_toArray, List.set_cons_zero, List.set_cons_succ]
      refine take_d (i := 12) (d := some 23) (v := ?_) rfl rfl (by kernel_rfl) (by kernel_rfl) (by kernel_rfl) (fun _ _ _ h => h) (Or.inl ⟨by first | rfl | (simp [*, Region.wanted, yielded]), ?hy12⟩) (by assumption) ?rest12
      case hy12 => (intro w hSw; (try dsimp only at hSw); go_simp <;> with_reducible rfl)
      try simp only [Act.put, List.setIfInBounds_toArray, List.set_cons_zero, List.set_cons_succ]
      refine wpAnyH_ready (rs := [13]) (by kernel_rfl) (by simp) ?_
      refine AllReadyH.cons (o := _) rfl (fun K hK => ?_) AllReadyH.nil
      go_simp
      go_wp2_with fail
      refine hK.out _ _ (HKp.out _ (Below.alloc p5 p5.size _)) (fun hHeld => ?_)
      clear hK K
      try simp only [Act.put, List.setIfInBounds_toArray, List.set_cons_zero, List.set_cons_succ]
      refine wpAnyH_ready (rs := [14]) (by kernel_rfl) (by simp) ?_
      refine AllReadyH.cons (o := _) rfl (fun K hK => ?_) AllReadyH.nil
      obtain ⟨cl, hcl, hrow, HC⟩ := HRow.out.rows (wx := w5.alloc (.cells #[.slice A5 xs.length c5, .int .i64 t] 55)) (HB5.out.alloc HB5.out.size _)
      refine step_append_lies _ rfl _ _ 23 rfl w.heap.size 55 i0 (.agg #[.slice none 0 0, .int .i64 0]) 2 32 Try.underlying23 hinf hz0 hz1 hz2 rfl (by decide) u3 pre.length cl (by rfl) (by exact hrow) ⟨w5.heap.size, 0, none⟩ 1 1 [.slice A5 xs.length c5, .int .i64 t] (by rfl) rfl (World.news_of_block (cs := #[.slice A5 xs.length c5, .int .i64 t]) (t := 55) (fr := (0, 0)) (heap_alloc_new w5 _)) (by simp [Value.oneCell']) (by decide) (by unfold maxLen; omega) (by omega) (by have := p5.size; simp; omega) _ rfl ?_
      intro g4 cap4 w4 hown4 hgrow4 hat4 hlt4
      obtain ⟨cl0, hr0, _⟩ := HRow.out
      have p4 : Below w.heap.size w w4 := (p5.alloc p5.size _).grown hgrow4 (by have := p5.size; simp; omega) (fun q hq => (hr0.lt q hq).1)
      obtain ⟨A6, c6, hv6, hi6⟩ := hown5.out.ints (by omega) (HI.out w (Below.refl _ _)).bd
      cases hv6
      have HN := hid (RowR.push (w := wr) (t := t) (A := A5) (c := c5) hcl (by exact HC.out) (by exact (hi6.below ((Below.refl _ _).alloc (Nat.le_refl _) (.cells #[.slice A5 xs.length c5, .int .i64 t] 55)))) (own_apart hown5.out hr0 (Nat.le_refl _)) (own_far hown5.out (by exact hB.size)) hown4 hgrow4 (own_same_or hat4))
      clear hown4 hgrow4 hat4 hcl hrow HC hi6 hr0
      refine hK.out _ _ (HKp.out _ p4) (fun hHeld => ?_)
      clear hK K
      try simp only [Act.put, List.setIfInBounds_toArray, List.set_cons_zero, List.set_cons_succ]
      refine take_d (i := 15) (d := some 3) (v := ?_) rfl rfl (by kernel_rfl) (by kernel_rfl) (by kernel_rfl) (fun _ _ _ h => h) (Or.inl ⟨by first | rfl | (simp [*, Region.wanted, yielded]), ?hy15⟩) (by assumption) ?rest15
      case hy15 => (intro w hSw; (try dsimp only at hSw); go_simp <;> with_reducible rfl)
      try simp only [Act.put, List.setIfInBounds_toArray, List.set_cons_zero, List.set_cons_succ]
      refine wpAnyH_done (by kernel_rfl) ?_ _
      go_simp
      go_wp2
      go_roundw
      case rel => exact ⟨k + 1, by omega, by go_num, by rw [HTk.out, ← hkl]; exact HN.out, p4⟩
      case measure => simp [intOf]; omega
    · obtain rfl : k = rls.length := by omega
      rw [List.take_length] at HRow
      obtain ⟨A, c, hv, hR⟩ := HRow.out.rules (by omega) (fun i hi => by
        rcases HA.out.at_ with e | ⟨b, off, rfl, hc⟩
        · rw [e] at hi; simp at hi
        · obtain ⟨_, _, _, _, _, hbd⟩ := hc i hi
          exact hbd)
      subst hv
      go_wp2
      go_ret
      exact ⟨hB, A, c, rfl, hR⟩
end Go.Proofs.Ytdgleicpcjfnoaa
