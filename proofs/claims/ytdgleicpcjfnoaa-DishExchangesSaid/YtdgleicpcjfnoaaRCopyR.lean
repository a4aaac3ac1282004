/- The document's CopyRules. -/
import Derived.Test.YtdgleicpcjfnoaaRSameB
import Derived.Test.YtdgleicpcjfnoaaCopyInts
import Derived.Deep.AppendLies
import Derived.Test.YtdgleicpcjfnoaaTakeD
/- Rows of rules that a call makes: what an append keeps. -/
set_option linter.unusedVariables false
namespace Go.Proofs.Ytdgleicpcjfnoaa
open Go.RowKit

/-- The slice A, where it holds anything, lies in another block than the row v. -/
def ApartV (A : Option Addr) (xs : List Int) (v : Value) : Prop := xs = [] ∨ ∀ p, A = some p → v.ownBlock ≠ some p.block
theorem Ints.grown {w w' : World} {A : Option Addr} {xs : List Int} {v : Value} (h : Ints w A xs) (hg : w.grownBy w' v.ownBlock) (ha : ApartV A xs v) : Ints w' A xs := by
  refine ⟨h.len, ?_, h.bd⟩
  rcases h.at_ with e | ⟨b, off, rfl, hc⟩
  · exact .inl e
  · rcases ha with e | ha
    · exact .inl e
    · refine .inr ⟨b, off, rfl, fun i hi => ?_⟩
      have hlt := cell_lt (hc i hi)
      rw [World.cell?_of_block (w := w) (hg.block b hlt (fun e => ha _ rfl e.symm))]
      exact hc i hi
/-- The slice A, where it holds anything, lies at the block base or above it. -/
def FarV (base : Nat) (A : Option Addr) (xs : List Int) : Prop := xs = [] ∨ ∀ p, A = some p → base ≤ p.block
/-- The cells from the block base on are kept. -/
def SameAbove (base : Nat) (w w' : World) : Prop := ∀ b off v, base ≤ b → w.cell? ⟨b, off, none⟩ = some v → w'.cell? ⟨b, off, none⟩ = some v
theorem SameAbove.refl (base : Nat) (w : World) : SameAbove base w w := fun _ _ _ _ h => h
theorem SameAbove.trans {base : Nat} {w w1 w2 : World} (h : SameAbove base w w1) (h2 : SameAbove base w1 w2) : SameAbove base w w2 := fun b off v hb h0 => h2 b off v hb (h b off v hb h0)
/-- All cells but those of the block g are kept. -/
def KeepBut (g : Nat) (w w' : World) : Prop := ∀ b off v, b ≠ g → w.cell? ⟨b, off, none⟩ = some v → w'.cell? ⟨b, off, none⟩ = some v
theorem KeepBut.refl (g : Nat) (w : World) : KeepBut g w w := fun _ _ _ _ h => h
theorem KeepBut.trans {g : Nat} {w w1 w2 : World} (h : KeepBut g w w1) (h2 : KeepBut g w1 w2) : KeepBut g w w2 := fun b off v hb h0 => h2 b off v hb (h b off v hb h0)
theorem KeepBut.setCell (g : Nat) (w : World) (o : Nat) (v : Value) : KeepBut g w (w.setCell ⟨g, o, none⟩ v) := by
  intro b off u hb h0
  rw [World.cell?_setCell_far _ _ _ _ (by exact fun e => hb e.symm)]
  exact h0
theorem Ints.above {base : Nat} {w w' : World} {A : Option Addr} {xs : List Int} (h : Ints w A xs) (hs : SameAbove base w w') (hf : FarV base A xs) : Ints w' A xs := by
  refine ⟨h.len, ?_, h.bd⟩
  rcases h.at_ with e | ⟨b, off, rfl, hc⟩
  · exact .inl e
  · rcases hf with e | hf
    · exact .inl e
    · refine .inr ⟨b, off, rfl, fun i hi => ?_⟩
      exact hs _ _ _ (hf _ rfl) (hc i hi)
/-- A row of rules of the call's own. -/
def RowR (w : World) (base : Nat) (rls : List RuleL) (v : Value) : Prop :=
  ∃ cl : List Value, w.ownsRow base 55 2 v rls.length cl ∧ ∀ i, i < rls.length → ∃ A c, cl[i * 2]? = some (.slice A (rls[i]?.getD ([], 0)).1.length c) ∧ cl[i * 2 + 1]? = some (.int .i64 (rls[i]?.getD ([], 0)).2) ∧ Ints w A (rls[i]?.getD ([], 0)).1 ∧ ApartV A (rls[i]?.getD ([], 0)).1 v ∧ FarV base A (rls[i]?.getD ([], 0)).1
theorem RowR.nil (w : World) (base : Nat) : RowR w base [] (.slice none 0 0) := ⟨[], ⟨rfl, .inl ⟨rfl, rfl⟩⟩, fun i hi => by simp at hi⟩
theorem row_cells {w : World} {base : Nat} {e : TypeId} {s : Nat} {g n c : Nat} {cl : List Value} (h : w.ownsRow base e s (.slice (some ⟨g, 0, none⟩) n c) n cl) (j : Nat) (u : Value) (hj : cl[j]? = some u) : w.cell? ⟨g, j, none⟩ = some u := by
  rcases h.2 with ⟨h', _⟩ | ⟨g', c', cur, h', hg, hh, hnc, hm, hs, ht⟩
  · simp at h'
  · simp only [Value.slice.injEq, Option.some.injEq, Addr.mk.injEq, and_true, true_and] at h'
    obtain ⟨rfl, rfl⟩ := h'
    unfold World.cell?
    rw [hh]
    simp only [Option.isSome_none, Bool.false_eq_true, if_false]
    rw [← ht] at hj
    rw [← Array.getElem?_toList]
    rw [List.getElem?_take] at hj
    split at hj
    · exact hj
    · cases hj
theorem RowR.rules {w : World} {base : Nat} {rls : List RuleL} {v : Value} (h : RowR w base rls v) (hl : rls.length ≤ 140737488355328) (hb : ∀ i, i < rls.length → -9223372036854775808 ≤ (rls[i]?.getD ([], 0)).2 ∧ (rls[i]?.getD ([], 0)).2 ≤ 9223372036854775807) :
    ∃ a c, v = .slice a rls.length c ∧ ∀ w', SameAbove base w w' → RulesAt w' a rls := by
  obtain ⟨cl, ho, hc⟩ := h
  rcases ho.2 with ⟨hv, hn⟩ | ⟨g, c, cur, hv, hg, _⟩
  · exact ⟨none, 0, by rw [hv, hn], fun _ _ => ⟨hl, .inl (List.eq_nil_of_length_eq_zero hn)⟩⟩
  · subst hv
    refine ⟨_, c, rfl, fun w' hs => ⟨hl, .inr ⟨g, 0, rfl, fun i hi => ?_⟩⟩⟩
    obtain ⟨A, d, h1, h2, h3, _, h5⟩ := hc i hi
    exact ⟨A, d, by rw [Nat.zero_add]; exact hs _ _ _ hg (row_cells ho _ _ h1), by rw [Nat.zero_add]; exact hs _ _ _ hg (row_cells ho _ _ h2), h3.above hs h5, hb i hi⟩
/-- One rule more. -/
theorem RowR.push {w wx w4 : World} {base : Nat} {rls : List RuleL} {v v' : Value} {cl : List Value} (hcl : cl.length = rls.length * 2)
    (hc : ∀ i, i < rls.length → ∃ A c, cl[i * 2]? = some (.slice A (rls[i]?.getD ([], 0)).1.length c) ∧ cl[i * 2 + 1]? = some (.int .i64 (rls[i]?.getD ([], 0)).2) ∧ Ints wx A (rls[i]?.getD ([], 0)).1 ∧ ApartV A (rls[i]?.getD ([], 0)).1 v ∧ FarV base A (rls[i]?.getD ([], 0)).1)
    {A : Option Addr} {c : Nat} {xs : List Int} {t : Int} (hA : Ints wx A xs) (ha : ApartV A xs v) (hf : FarV base A xs)
    (ho : w4.ownsRow base 55 2 v' (rls.length + 1) (cl ++ [.slice A xs.length c, .int .i64 t])) (hg : wx.grownBy w4 v.ownBlock) (hv : v'.ownBlock = v.ownBlock ∨ v'.ownBlock = some wx.heap.size) :
    RowR w4 base (rls ++ [(xs, t)]) v' := by
  have hap : ∀ (B : Option Addr) (ys : List Int), Ints wx B ys → ApartV B ys v → ApartV B ys v' := by
    intro B ys hB hB2
    rcases hB.at_ with e | ⟨b, off, rfl, hcb⟩
    · exact .inl e
    · rcases hB2 with e | hB2
      · exact .inl e
      · by_cases hy : ys = []
        · exact .inl hy
        · refine .inr (fun p hp => ?_)
          have hp2 := Option.some.inj hp
          rcases hv with e | e
          · rw [e]; exact hB2 p hp
          · rw [e]
            have hlt := cell_lt (hcb 0 (List.length_pos_iff.2 hy))
            intro he
            have := Option.some.inj he
            rw [← hp2] at this
            simp only at this hlt
            omega
  refine ⟨_, by rw [List.length_append]; exact ho, fun i hi => ?_⟩
  rw [List.length_append] at hi
  simp only [List.length_cons, List.length_nil, Nat.zero_add] at hi
  by_cases hlt : i < rls.length
  · obtain ⟨B, d, e1, e2, e3, e4, e5⟩ := hc i hlt
    rw [List.getElem?_append_left hlt]
    exact ⟨B, d, by rw [List.getElem?_append_left (by omega)]; exact e1, by rw [List.getElem?_append_left (by omega)]; exact e2, e3.grown hg e4, hap _ _ e3 e4, e5⟩
  · obtain rfl : i = rls.length := by omega
    refine ⟨A, c, ?_, ?_, ?_, ?_, ?_⟩
    · rw [List.getElem?_append_right (by omega), hcl, Nat.sub_self]; simp
    · rw [List.getElem?_append_right (by omega), hcl, show rls.length * 2 + 1 - rls.length * 2 = 1 by omega]; simp
    · simp only [List.getElem?_append_right (Nat.le_refl _), Nat.sub_self, List.getElem?_cons_zero, Option.getD_some]; exact hA.grown hg ha
    · simp only [List.getElem?_append_right (Nat.le_refl _), Nat.sub_self, List.getElem?_cons_zero, Option.getD_some]; exact hap _ _ hA ha
    · simp only [List.getElem?_append_right (Nat.le_refl _), Nat.sub_self, List.getElem?_cons_zero, Option.getD_some]; exact hf
theorem Own.cellsB {w : World} {m c : Nat} {A : Option Addr} {xs : List Int} (h : Own w m (.slice A xs.length c) xs) (i : Nat) (hi : i < xs.length) : ∃ b, A = some ⟨b, 0, none⟩ ∧ m ≤ b ∧ b < w.heap.size := by
  rcases h.2 with ⟨_, hn⟩ | ⟨g, cap, cur, hv, hg, hh, _⟩
  · omega
  · simp only [Value.slice.injEq] at hv
    exact ⟨g, hv.1, hg, (Array.getElem?_eq_some_iff.1 hh).1⟩
end Go.Proofs.Ytdgleicpcjfnoaa
set_option linter.unusedVariables false
set_option linter.unusedSimpArgs false
namespace Go.Proofs.Ytdgleicpcjfnoaa
open Go.RowKit

theorem rule_info : (Try.prog.info? 55).map (fun i => (i.zero, i.size, i.bytes)) = some (some (.agg #[.slice none 0 0, .int .i64 0]), 2, 32) := by kernel_rfl
theorem take_snoc {α : Type} (l : List α) (d : α) (k : Nat) (h : k < l.length) : l.take (k + 1) = l.take k ++ [l[k]?.getD d] := by
  rw [List.take_add_one, List.getElem?_eq_getElem h]; simp
theorem RowR.rows {w : World} {base : Nat} {rls : List RuleL} {v : Value} (h : RowR w base rls v) {wx : World} (hb : Below w.heap.size w wx) : ∃ cl : List Value, cl.length = rls.length * 2 ∧ wx.ownsRow base 55 2 v rls.length cl ∧ Hid (∀ i, i < rls.length → ∃ A c, cl[i * 2]? = some (.slice A (rls[i]?.getD ([], 0)).1.length c) ∧ cl[i * 2 + 1]? = some (.int .i64 (rls[i]?.getD ([], 0)).2) ∧ Ints wx A (rls[i]?.getD ([], 0)).1 ∧ ApartV A (rls[i]?.getD ([], 0)).1 v ∧ FarV base A (rls[i]?.getD ([], 0)).1) := by
  obtain ⟨cl, h1, h2⟩ := h
  refine ⟨cl, h1.1, own_below h1 hb, fun i hi => ?_⟩
  obtain ⟨A, c, e1, e2, e3, e4⟩ := h2 i hi
  exact ⟨A, c, e1, e2, e3.below hb, e4⟩
theorem own_apart {w wr : World} {base n : Nat} {v : Value} {cl : List Value} {k c : Nat} {A : Option Addr} {xs : List Int} (h : Own w n (.slice A xs.length c) xs) (hr : wr.ownsRow base 55 2 v k cl) (hn : wr.heap.size ≤ n) : ApartV A xs v := by
  by_cases hx : xs = []
  · exact .inl hx
  · refine .inr (fun p hp hv => ?_)
    obtain ⟨b, hA, hb, _⟩ := h.cellsB 0 (List.length_pos_iff.2 hx)
    rw [hp] at hA
    have := (hr.lt p.block hv).2
    have hpb := Option.some.inj hA
    rw [hpb] at this
    simp only at this
    omega

theorem own_far {w : World} {base n : Nat} {c : Nat} {A : Option Addr} {xs : List Int} (h : Own w n (.slice A xs.length c) xs) (hn : base ≤ n) : FarV base A xs := by
  by_cases hx : xs = []
  · exact .inl hx
  · refine .inr (fun p hp => ?_)
    obtain ⟨b, hA, hb, _⟩ := h.cellsB 0 (List.length_pos_iff.2 hx)
    rw [hp] at hA
    rw [Option.some.inj hA]
    exact Nat.le_trans hn hb
theorem own_same_or {v : Value} {g n c H : Nat} (h : v.ownBlock = some g ∨ g = H) : (Value.slice (some ⟨g, 0, none⟩) n c).ownBlock = v.ownBlock ∨ (Value.slice (some ⟨g, 0, none⟩) n c).ownBlock = some H := by
  rcases h with e | e
  · exact .inl e.symm
  · exact .inr (by rw [← e]; rfl)

set_option maxRecDepth 100000 in
set_option maxHeartbeats 4000000 in
theorem copyRules_any (a : Option Addr) (rls : List RuleL) (cap : Nat) (w : World) (h : RulesAt w a rls) (hl : rls.length ≤ 1000) (hls : ∀ i, i < rls.length → (rls[i]?.getD ([], 0)).1.length ≤ 1000) :
  Calls Try.prog 45 #[.slice a rls.length cap] w (fun en w' => Below w.heap.size w w' ∧ ∃ A c, en = .returned (.slice A rls.length c) ∧ ∀ w'', SameAbove w.heap.size w' w'' → RulesAt w'' A rls ∧ rls.length ≤ c) := by
  obtain ⟨i0, hinf, hz0, hz1, hz2⟩ := info_parts rule_info
  have HA := hid h
  have HLs := hid hls
  clear h hls
  go_enter Try.func45, Try.ntmps45
  go_wp2
  go_loopw [3, 4] (fun v i wr => ∃ k : Nat, k ≤ rls.length ∧ i = .int .i64 k ∧ Hid (RowR wr w.heap.size (rls.take k) v) ∧ Below w.heap.size w wr) (fun _ i _ => rls.length - (intOf i).toNat)
  case atStart => exact ⟨0, Nat.zero_le _, rfl, RowR.nil _ _, Below.refl _ _⟩
  case round =>
    obtain ⟨k, hk, rfl, HRow, hB⟩ := hrel
    by_cases hlt : k < rls.length
    · rcases (HA.out).at_ with e | ⟨b, off, rfl, hc⟩
      · rw [e] at hlt; simp at hlt
      obtain ⟨A, c, c0, c1, hI, hbd⟩ := hc k hlt
      have hxl := HLs.out k hlt
      have HTk := hid (take_snoc rls ([], 0) k hlt)
      have hkl : (rls.take k).length = k := by rw [List.length_take]; omega
      have hlk : (k : Int) < (rls.length : Int) := by omega
      have hk0 : (0 : Int) ≤ (k : Int) := by omega
      clear hc
      generalize rls[k]?.getD ([], 0) = r at *
      obtain ⟨xs, t⟩ := r
      dsimp only at c0 c1 hI hbd hxl
      have HI := hid (fun (w' : World) (hb : Below w.heap.size w w') => hI.below hb)
      have hbl := cell_lt c0
      have hbl1 := cell_lt c1
      have HKp := hid (fun (w' : World) (hb : Below w.heap.size w w') => (show w'.cell? ⟨b, off + k * 2, none⟩ = some (.slice A xs.length c) ∧ w'.cell? ⟨b, off + k * 2 + 1, none⟩ = some (.int .i64 t) ∧ Below w.heap.size w w' from ⟨by rw [hb.cell hbl]; exact c0, by rw [hb.cell hbl1]; exact c1, hb⟩))
      clear hI c0 c1
      generalize htk : rls.take k = pre at *
      go_wp2
      refine wp_region_held_drew (S := (fun w' => w'.cell? ⟨b, off + k * 2, none⟩ = some (.slice A xs.length c) ∧ w'.cell? ⟨b, off + k * 2 + 1, none⟩ = some (.int .i64 t) ∧ Below w.heap.size w w')) (by kernel_rfl) (HKp.out _ hB.drew) (fun hHeld => ?_)
      refine take_d (i := 0) (d := some 11) (v := ?_) rfl rfl (by kernel_rfl) (by kernel_rfl) (by kernel_rfl) (fun _ _ _ h => h) (Or.inl ⟨by first | rfl | (simp [*, Region.wanted, yielded]), ?hy0⟩) (by assumption) ?rest0
      case hy0 => (intro w hSw; (try dsimp only at hSw); go_simp <;> with_reducible rfl)
      try simp only [Act.put, List.setIfInBounds_toArray, List.set_cons_zero, List.set_cons_succ]
      refine take_d (i := 1) (d := some 12) (v := ?_) rfl rfl (by kernel_rfl) (by kernel_rfl) (by kernel_rfl) (fun _ _ _ h => h) (Or.inl ⟨by first | rfl | (simp [*, Region.wanted, yielded]), ?hy1⟩) (by assumption) ?rest1
      case hy1 => (intro w hSw; (try dsimp only at hSw); go_simp <;> with_reducible rfl)
      try simp only [Act.put, List.setIfInBounds_toArray, List.set_cons_zero, List.set_cons_succ]
      refine take_d (i := 2) (d := some 13) (v := ?_) rfl rfl (by kernel_rfl) (by kernel_rfl) (by kernel_rfl) (fun _ _ _ h => h) (Or.inl ⟨by first | rfl | (simp [*, Region.wanted, yielded]), ?hy2⟩) (by assumption) ?rest2
      case hy2 => (intro w hSw; (try dsimp only at hSw); go_simp <;> with_reducible rfl)
      try simp only [Act.put, List.setIfInBounds_toArray, List.set_cons_zero, List.set_cons_succ]
      refine take_d (i := 3) (d := some 14) (v := ?_) rfl rfl (by kernel_rfl) (by kernel_rfl) (by kernel_rfl) (fun _ _ _ h => h) (Or.inl ⟨by first | rfl | (simp [*, Region.wanted, yielded]), ?hy3⟩) (by assumption) ?rest3
      case hy3 => (intro w hSw; (try dsimp only at hSw); go_simp <;> with_reducible rfl)
      try simp only [Act.put, List.setIfInBounds_toArray, List.set_cons_zero, List.set_cons_succ]
      refine take_d (i := 4) (d := some 15) (v := ?_) rfl rfl (by kernel_rfl) (by kernel_rfl) (by kernel_rfl) (fun _ _ _ h => h) (Or.inl ⟨by first | rfl | (simp [*, Region.wanted, yielded]), ?hy4⟩) (by assumption) ?rest4
      case hy4 => (intro w hSw; (try dsimp only at hSw); go_simp <;> with_reducible rfl)
      try simp only [Act.put, List.setIfInBounds_toArray, List.set_cons_zero, List.set_cons_succ]
      refine take_d (i := 5) (d := some 16) (v := ?_) rfl rfl (by kernel_rfl) (by kernel_rfl) (by kernel_rfl) (fun _ _ _ h => h) (Or.inl ⟨by first | rfl | (simp [*, Region.wanted, yielded]), ?hy5⟩) (by assumption) ?rest5
      case hy5 => (intro w hSw; (try dsimp only at hSw); go_simp <;> with_reducible rfl)
      try simp only [Act.put, List.setIfInBounds_toArray, List.set_cons_zero, List.set_cons_succ]
      refine take_d (i := 7) (d := some 18) (v := ?_) rfl rfl (by kernel_rfl) (by kernel_rfl) (by kernel_rfl) (fun _ _ _ h => h) (Or.inl ⟨by first | rfl | (simp [*, Region.wanted, yielded]), ?hy7⟩) (by assumption) ?rest7
      case hy7 => (intro w hSw; (try dsimp only at hSw); go_simp <;> with_reducible rfl)
      try simp only [Act.put, List.setIfInBounds_toArray, List.set_cons_zero, List.set_cons_succ]
      refine take_d (i := 8) (d := some 19) (v := ?_) rfl rfl (by kernel_rfl) (by kernel_rfl) (by kernel_rfl) (fun _ _ _ h => h) (Or.inl ⟨by first | rfl | (simp [*, Region.wanted, yielded]), ?hy8⟩) (by assumption) ?rest8
      case hy8 => (intro w hSw; (try dsimp only at hSw); go_simp <;> with_reducible rfl)
      try simp only [Act.put, List.setIfInBounds_toArray, List.set_cons_zero, List.set_cons_succ]
      refine take_d (i := 9) (d := some 20) (v := ?_) rfl rfl (by kernel_rfl) (by kernel_rfl) (by kernel_rfl) (fun _ _ _ h => h) (Or.inl ⟨by first | rfl | (simp [*, Region.wanted, yielded]), ?hy9⟩) (by assumption) ?rest9
      case hy9 => (intro w hSw; (try dsimp only at hSw); go_simp <;> with_reducible rfl)
      try simp only [Act.put, List.setIfInBounds_toArray, List.set_cons_zero, List.set_cons_succ]
      refine take_d (i := 10) (d := some 21) (v := ?_) rfl rfl (by kernel_rfl) (by kernel_rfl) (by kernel_rfl) (fun _ _ _ h => h) (Or.inl ⟨by first | rfl | (simp [*, Region.wanted, yielded]), ?hy10⟩) (by assumption) ?rest10
      case hy10 => (intro w hSw; (try dsimp only at hSw); go_simp <;> with_reducible rfl)
      try simp only [Act.put, List.setIfInBounds_toArray, List.set_cons_zero, List.set_cons_succ]
      refine take_d (i := 11) (d := some 22) (v := ?_) rfl rfl (by kernel_rfl) (by kernel_rfl) (by kernel_rfl) (fun _ _ _ h => h) (Or.inl ⟨by first | rfl | (simp [*, Region.wanted, yielded]), ?hy11⟩) (by assumption) ?rest11
      case hy11 => (intro w hSw; (try dsimp only at hSw); go_simp <;> with_reducible rfl)
      try simp only [Act.put, List.setIfInBounds_toArray, List.set_cons_zero, List.set_cons_succ]
      refine wpAnyH_ready (rs := [6]) (by kernel_rfl) (by simp) ?_
      refine AllReadyH.cons (o := _) rfl (fun K hK => ?_) AllReadyH.nil
      go_simp
      refine (copyInts_sl A xs c _ (HI.out _ hB.drew) (by omega)).mono ?_
      rintro en w5 ⟨hb5, A5, c5, rfl, hown5'⟩
      have hown5 := hid hown5'
      have p5 : Below w.heap.size w w5 := hB.drew.trans (hb5.mono hB.drew.size)
      have HB5 := hid (show Below wr.heap.size wr w5 from (Below.refl _ wr).drew.trans hb5)
      clear hown5' hb5
      go_wp2_with fail
      refine hK.out _ _ (HKp.out _ p5) (fun hHeld => ?_)
      clear hK K
      try simp only [Act.put, List.setIfInBounds_toArray, List.set_cons_zero, List.set_cons_succ]
      refine take_d (i := 12) (d := some 23) (v := ?_) rfl rfl (by kernel_rfl) (by kernel_rfl) (by kernel_rfl) (fun _ _ _ h => h) (Or.inl ⟨by first | rfl | (simp [*, Region.wanted, yielded]), ?hy12⟩) (by assumption) ?rest12
      case hy12 => (intro w hSw; (try dsimp only at hSw); go_simp <;> with_reducible rfl)
      try simp only [Act.put, List.setIfInBounds_toArray, List.set_cons_zero, List.set_cons_succ]
      refine wpAnyH_ready (rs := [13]) (by kernel_rfl) (by simp) ?_
      refine AllReadyH.cons (o := _) rfl (fun K hK => ?_) AllReadyH.nil
      go_simp
      go_wp2_with fail
      refine hK.out _ _ (HKp.out _ (Below.alloc p5 p5.size _)) (fun hHeld => ?_)
      clear hK K
      try simp only [Act.put, List.setIfInBounds_toArray, List.set_cons_zero, List.set_cons_succ]
      refine wpAnyH_ready (rs := [14]) (by kernel_rfl) (by simp) ?_
      refine AllReadyH.cons (o := _) rfl (fun K hK => ?_) AllReadyH.nil
      obtain ⟨cl, hcl, hrow, HC⟩ := HRow.out.rows (wx := w5.alloc (.cells #[.slice A5 xs.length c5, .int .i64 t] 55)) (HB5.out.alloc HB5.out.size _)
      refine step_append_lies _ rfl _ _ 23 rfl w.heap.size 55 i0 (.agg #[.slice none 0 0, .int .i64 0]) 2 32 Try.underlying23 hinf hz0 hz1 hz2 rfl (by decide) u3 pre.length cl (by rfl) (by exact hrow) ⟨w5.heap.size, 0, none⟩ 1 1 [.slice A5 xs.length c5, .int .i64 t] (by rfl) rfl (World.news_of_block (cs := #[.slice A5 xs.length c5, .int .i64 t]) (t := 55) (fr := (0, 0)) (heap_alloc_new w5 _)) (by simp [Value.oneCell']) (by decide) (by unfold maxLen; omega) (by omega) (by have := p5.size; simp; omega) _ rfl ?_
      intro g4 cap4 w4 hown4 hgrow4 hat4 hlt4
      obtain ⟨cl0, hr0, _⟩ := HRow.out
      have p4 : Below w.heap.size w w4 := (p5.alloc p5.size _).grown hgrow4 (by have := p5.size; simp; omega) (fun q hq => (hr0.lt q hq).1)
      obtain ⟨A6, c6, hv6, hi6⟩ := hown5.out.ints (by omega) (HI.out w (Below.refl _ _)).bd
      cases hv6
      have HN := hid (RowR.push (w := wr) (t := t) (A := A5) (c := c5) hcl (by exact HC.out) (by exact (hi6.below ((Below.refl _ _).alloc (Nat.le_refl _) (.cells #[.slice A5 xs.length c5, .int .i64 t] 55)))) (own_apart hown5.out hr0 (Nat.le_refl _)) (own_far hown5.out (by exact hB.size)) hown4 hgrow4 (own_same_or hat4))
      clear hown4 hgrow4 hat4 hcl hrow HC hi6 hr0
      refine hK.out _ _ (HKp.out _ p4) (fun hHeld => ?_)
      clear hK K
      try simp only [Act.put, List.setIfInBounds_toArray, List.set_cons_zero, List.set_cons_succ]
      refine take_d (i := 15) (d := some 3) (v := ?_) rfl rfl (by kernel_rfl) (by kernel_rfl) (by kernel_rfl) (fun _ _ _ h => h) (Or.inl ⟨by first | rfl | (simp [*, Region.wanted, yielded]), ?hy15⟩) (by assumption) ?rest15
      case hy15 => (intro w hSw; (try dsimp only at hSw); go_simp <;> with_reducible rfl)
      try simp only [Act.put, List.setIfInBounds_toArray, List.set_cons_zero, List.set_cons_succ]
      refine wpAnyH_done (by kernel_rfl) ?_ _
      go_simp
      go_wp2
      go_roundw
      case rel => exact ⟨k + 1, by omega, by go_num, by rw [HTk.out, ← hkl]; exact HN.out, p4⟩
      case measure => simp [intOf]; omega
    · obtain rfl : k = rls.length := by omega
      rw [List.take_length] at HRow
      obtain ⟨A, c, hv, hR⟩ := HRow.out.rules (by omega) (fun i hi => by
        rcases HA.out.at_ with e | ⟨b, off, rfl, hc⟩
        · rw [e] at hi; simp at hi
        · obtain ⟨_, _, _, _, _, hbd⟩ := hc i hi
          exact hbd)
      subst hv
      have hcap := hid (show rls.length ≤ c by
        obtain ⟨cl0, ho0, _⟩ := HRow.out
        rcases ho0.2 with ⟨_, hn⟩ | ⟨g0, c0, cur0, hv0, _, _, hc0, _⟩
        · omega
        · simp only [Value.slice.injEq] at hv0
          omega)
      go_wp2
      go_ret
      exact ⟨hB, A, c, rfl, fun w'' hs => ⟨hR w'' hs, hcap.out⟩⟩
end Go.Proofs.Ytdgleicpcjfnoaa
